/- The walk of the exact law of IsSmithProof. -/
import Derived.Test.YtihdidbikeaafaaL08E
import Derived.Deep.RegionHeld3
import Derived.Deep.DeepCutAuto
namespace Go.Proofs.Ytihdidbikeaafaa
open Go.RowKit
set_option linter.unusedVariables false
set_option linter.unusedSimpArgs false

set_option maxRecDepth 100000 in
set_option maxHeartbeats 4000000 in
theorem fnExactIsSmithProof_run (v0 : Value) (x0 : Tab) (v1 : Value) (x1 : Tab) (v2 : Value) (x2 : Tab) (v3 : Value) (x3 : List Int) (w : World) (h0 : spTab.rd w v0 x0) (h1 : spTab.rd w v1 x1) (h2 : spTab.rd w v2 x2) (h3 : spI.rd w v3 x3) :
    Calls Try.prog 3 #[v0, v1, v2, v3] w fun e w' => e = .returned (.bool true) ∧ Below w.heap.size w w' := by
  have h3b := h3
  obtain ⟨A3, c3, rfl, m3, -⟩ := h3b
  have m3' := m3
  unfold maxLen at m3'
  obtain ⟨Aa0_1, na0_1, ca0_1, rfl, -⟩ := spTab_form h0
  obtain ⟨Aa1_1, na1_1, ca1_1, rfl, -⟩ := spTab_form h1
  obtain ⟨Aa2_1, na2_1, ca2_1, rfl, -⟩ := spTab_form h2
  have L : Below w.heap.size w (((w.alloc (.cells [.int .i64 x0.C, .slice Aa0_1 na0_1 ca0_1].toArray 24)).alloc (.cells [.int .i64 x1.C, .slice Aa1_1 na1_1 ca1_1].toArray 24)).alloc (.cells [.int .i64 x2.C, .slice Aa2_1 na2_1 ca2_1].toArray 24)) := by go_grown
  have Ba0 : Blk (((w.alloc (.cells [.int .i64 x0.C, .slice Aa0_1 na0_1 ca0_1].toArray 24)).alloc (.cells [.int .i64 x1.C, .slice Aa1_1 na1_1 ca1_1].toArray 24)).alloc (.cells [.int .i64 x2.C, .slice Aa2_1 na2_1 ca2_1].toArray 24)) (w.heap.size) [.int .i64 x0.C, .slice Aa0_1 na0_1 ca0_1] 24 := by have := ((Blk.new w [.int .i64 x0.C, .slice Aa0_1 na0_1 ca0_1] 24).alloc (.cells [.int .i64 x1.C, .slice Aa1_1 na1_1 ca1_1].toArray 24)).alloc (.cells [.int .i64 x2.C, .slice Aa2_1 na2_1 ca2_1].toArray 24); simpa only [World.size_alloc] using this
  have Ba1 : Blk (((w.alloc (.cells [.int .i64 x0.C, .slice Aa0_1 na0_1 ca0_1].toArray 24)).alloc (.cells [.int .i64 x1.C, .slice Aa1_1 na1_1 ca1_1].toArray 24)).alloc (.cells [.int .i64 x2.C, .slice Aa2_1 na2_1 ca2_1].toArray 24)) (w.heap.size + 1) [.int .i64 x1.C, .slice Aa1_1 na1_1 ca1_1] 24 := by have := (Blk.new (w.alloc (.cells [.int .i64 x0.C, .slice Aa0_1 na0_1 ca0_1].toArray 24)) [.int .i64 x1.C, .slice Aa1_1 na1_1 ca1_1] 24).alloc (.cells [.int .i64 x2.C, .slice Aa2_1 na2_1 ca2_1].toArray 24); simpa only [World.size_alloc] using this
  have Ba2 : Blk (((w.alloc (.cells [.int .i64 x0.C, .slice Aa0_1 na0_1 ca0_1].toArray 24)).alloc (.cells [.int .i64 x1.C, .slice Aa1_1 na1_1 ca1_1].toArray 24)).alloc (.cells [.int .i64 x2.C, .slice Aa2_1 na2_1 ca2_1].toArray 24)) (w.heap.size + 1 + 1) [.int .i64 x2.C, .slice Aa2_1 na2_1 ca2_1] 24 := by have := Blk.new ((w.alloc (.cells [.int .i64 x0.C, .slice Aa0_1 na0_1 ca0_1].toArray 24)).alloc (.cells [.int .i64 x1.C, .slice Aa1_1 na1_1 ca1_1].toArray 24)) [.int .i64 x2.C, .slice Aa2_1 na2_1 ca2_1] 24; simpa only [World.size_alloc] using this
  have RW0 := Lib.hid h0
  have RW1 := Lib.hid h1
  have RW2 := Lib.hid h2
  have RW3 := Lib.hid h3
  clear h0 h1 h2 h3
  by_cases s3 : (x3.length : Int) ≤ 1048576
  · have s3' : spI.sz x3 ≤ 1048576 := by show x3.length ≤ 1048576; omega
    by_cases s0 : (spTab.sz x0 : Int) ≤ 1048576
    · have s0' : spTab.sz x0 ≤ 1048576 := by omega
      by_cases s1 : (spTab.sz x1 : Int) ≤ 1048576 - (spTab.sz x0 : Int)
      · have s1' : spTab.sz x1 ≤ 1048576 := by omega
        by_cases s2 : (spTab.sz x2 : Int) ≤ 1048576 - (spTab.sz x0 : Int) - (spTab.sz x1 : Int)
        · have s2' : spTab.sz x2 ≤ 1048576 := by omega
          obtain ⟨ba0l, ba00, ba01⟩ := Ba0.c2
          obtain ⟨ba1l, ba10, ba11⟩ := Ba1.c2
          obtain ⟨ba2l, ba20, ba21⟩ := Ba2.c2
          have HC := Lib.hid (szTab_ok (.agg #[.int .i64 x0.C, .slice Aa0_1 na0_1 ca0_1]) x0 (1048576) (((w.alloc (.cells [.int .i64 x0.C, .slice Aa0_1 na0_1 ca0_1].toArray 24)).alloc (.cells [.int .i64 x1.C, .slice Aa1_1 na1_1 ca1_1].toArray 24)).alloc (.cells [.int .i64 x2.C, .slice Aa2_1 na2_1 ca2_1].toArray 24)) (spTab.rd_below RW0.out L) (by omega) (by omega))
          rw [szLeft_yes (n := spTab.sz x0) (left := 1048576) (by omega)] at HC
          have g0 : 0 ≤ 1048576 - (spTab.sz x0 : Int) := by omega
          have g0' : 1048576 - (spTab.sz x0 : Int) ≤ 1048576 := by omega
          go_enter Try.func3, Try.ntmps3
          go_wp2_with (fail)
          refine HC.out.mono ?_; rintro e w1 ⟨rfl, hb⟩
          clear ba0l ba00 ba01 ba1l ba10 ba11 ba2l ba20 ba21
          clear HC
          replace Ba0 := Ba0.below hb
          replace Ba1 := Ba1.below hb
          replace Ba2 := Ba2.below hb
          replace L := bstep L L.size hb
          clear hb
          obtain ⟨ba0l, ba00, ba01⟩ := Ba0.c2
          obtain ⟨ba1l, ba10, ba11⟩ := Ba1.c2
          obtain ⟨ba2l, ba20, ba21⟩ := Ba2.c2
          have HC := Lib.hid (szTab_ok (.agg #[.int .i64 x1.C, .slice Aa1_1 na1_1 ca1_1]) x1 (1048576 - (spTab.sz x0 : Int)) w1 (spTab.rd_below RW1.out L) (by omega) (by omega))
          rw [szLeft_yes (n := spTab.sz x1) (left := 1048576 - (spTab.sz x0 : Int)) (by omega)] at HC
          have g1 : 0 ≤ 1048576 - (spTab.sz x0 : Int) - (spTab.sz x1 : Int) := by omega
          have g1' : 1048576 - (spTab.sz x0 : Int) - (spTab.sz x1 : Int) ≤ 1048576 := by omega
          go_wp2_with (fail)
          refine HC.out.mono ?_; rintro e w2 ⟨rfl, hb⟩
          clear ba0l ba00 ba01 ba1l ba10 ba11 ba2l ba20 ba21
          clear HC
          replace Ba0 := Ba0.below hb
          replace Ba1 := Ba1.below hb
          replace Ba2 := Ba2.below hb
          replace L := bstep L L.size hb
          clear hb
          obtain ⟨ba0l, ba00, ba01⟩ := Ba0.c2
          obtain ⟨ba1l, ba10, ba11⟩ := Ba1.c2
          obtain ⟨ba2l, ba20, ba21⟩ := Ba2.c2
          have HC := Lib.hid (szTab_ok (.agg #[.int .i64 x2.C, .slice Aa2_1 na2_1 ca2_1]) x2 (1048576 - (spTab.sz x0 : Int) - (spTab.sz x1 : Int)) w2 (spTab.rd_below RW2.out L) (by omega) (by omega))
          rw [szLeft_yes (n := spTab.sz x2) (left := 1048576 - (spTab.sz x0 : Int) - (spTab.sz x1 : Int)) (by omega)] at HC
          have g2 : 0 ≤ 1048576 - (spTab.sz x0 : Int) - (spTab.sz x1 : Int) - (spTab.sz x2 : Int) := by omega
          have g2' : 1048576 - (spTab.sz x0 : Int) - (spTab.sz x1 : Int) - (spTab.sz x2 : Int) ≤ 1048576 := by omega
          go_wp2_with (fail)
          refine HC.out.mono ?_; rintro e w3 ⟨rfl, hb⟩
          clear ba0l ba00 ba01 ba1l ba10 ba11 ba2l ba20 ba21
          clear HC
          replace Ba0 := Ba0.below hb
          replace Ba1 := Ba1.below hb
          replace Ba2 := Ba2.below hb
          replace L := bstep L L.size hb
          clear hb
          obtain ⟨ba0l, ba00, ba01⟩ := Ba0.c2
          obtain ⟨ba1l, ba10, ba11⟩ := Ba1.c2
          obtain ⟨ba2l, ba20, ba21⟩ := Ba2.c2
          have hd : Below w3.heap.size w3 w3.drew := (Below.refl _ _).drew
          have hsz := L.size
          have hszd : w3.heap.size ≤ w3.drew.heap.size := hd.size
          go_wp2_with (fail)
          go_region_held3 (fun wx => wx.cell? ⟨(w.heap.size), 0, none⟩ = some (.int .i64 x0.C) ∧ wx.cell? ⟨(w.heap.size), 1, none⟩ = some (.slice Aa0_1 na0_1 ca0_1) ∧ wx.cell? ⟨(w.heap.size + 1), 0, none⟩ = some (.int .i64 x1.C) ∧ wx.cell? ⟨(w.heap.size + 1), 1, none⟩ = some (.slice Aa1_1 na1_1 ca1_1) ∧ wx.cell? ⟨(w.heap.size + 1 + 1), 0, none⟩ = some (.int .i64 x2.C) ∧ wx.cell? ⟨(w.heap.size + 1 + 1), 1, none⟩ = some (.slice Aa2_1 na2_1 ca2_1)) (first | go_keep | assumption) (first | (go_at_call 16; (with_reducible refine (toOk_c toTab_ok (.agg #[.int .i64 x0.C, .slice Aa0_1 na0_1 ca0_1]) x0 w3.drew (spTab.rd_drew (spTab.rd_below RW0.out L)) s0').mono ?_); rintro e w4 ⟨up0, Sp0, rfl, owp0, hSp0, hbp0⟩; have SMp0 : w4.cell? ⟨(w.heap.size), 0, none⟩ = some (.int .i64 x0.C) ∧ w4.cell? ⟨(w.heap.size), 1, none⟩ = some (.slice Aa0_1 na0_1 ca0_1) ∧ w4.cell? ⟨(w.heap.size + 1), 0, none⟩ = some (.int .i64 x1.C) ∧ w4.cell? ⟨(w.heap.size + 1), 1, none⟩ = some (.slice Aa1_1 na1_1 ca1_1) ∧ w4.cell? ⟨(w.heap.size + 1 + 1), 0, none⟩ = some (.int .i64 x2.C) ∧ w4.cell? ⟨(w.heap.size + 1 + 1), 1, none⟩ = some (.slice Aa2_1 na2_1 ca2_1) := ⟨(Blk.cell ((Ba0.drew).below hbp0) 0 (by simp)), (Blk.cell ((Ba0.drew).below hbp0) 1 (by simp)), (Blk.cell ((Ba1.drew).below hbp0) 0 (by simp)), (Blk.cell ((Ba1.drew).below hbp0) 1 (by simp)), (Blk.cell ((Ba2.drew).below hbp0) 0 (by simp)), (Blk.cell ((Ba2.drew).below hbp0) 1 (by simp))⟩) | (go_at_call 16; (with_reducible refine (toOk_c toTab_ok (.agg #[.int .i64 x1.C, .slice Aa1_1 na1_1 ca1_1]) x1 w4 (spTab.rd_below (spTab.rd_drew (spTab.rd_below RW1.out L)) hbp0) s1').mono ?_); rintro e w5 ⟨up1, Sp1, rfl, owp1, hSp1, hbp1⟩; have SMp1 : w5.cell? ⟨(w.heap.size), 0, none⟩ = some (.int .i64 x0.C) ∧ w5.cell? ⟨(w.heap.size), 1, none⟩ = some (.slice Aa0_1 na0_1 ca0_1) ∧ w5.cell? ⟨(w.heap.size + 1), 0, none⟩ = some (.int .i64 x1.C) ∧ w5.cell? ⟨(w.heap.size + 1), 1, none⟩ = some (.slice Aa1_1 na1_1 ca1_1) ∧ w5.cell? ⟨(w.heap.size + 1 + 1), 0, none⟩ = some (.int .i64 x2.C) ∧ w5.cell? ⟨(w.heap.size + 1 + 1), 1, none⟩ = some (.slice Aa2_1 na2_1 ca2_1) := ⟨(Blk.cell (((Ba0.drew).below hbp0).below hbp1) 0 (by simp)), (Blk.cell (((Ba0.drew).below hbp0).below hbp1) 1 (by simp)), (Blk.cell (((Ba1.drew).below hbp0).below hbp1) 0 (by simp)), (Blk.cell (((Ba1.drew).below hbp0).below hbp1) 1 (by simp)), (Blk.cell (((Ba2.drew).below hbp0).below hbp1) 0 (by simp)), (Blk.cell (((Ba2.drew).below hbp0).below hbp1) 1 (by simp))⟩) | (go_at_call 16; (with_reducible refine (toOk_c toTab_ok (.agg #[.int .i64 x2.C, .slice Aa2_1 na2_1 ca2_1]) x2 w5 (spTab.rd_below (spTab.rd_below (spTab.rd_drew (spTab.rd_below RW2.out L)) hbp0) hbp1) s2').mono ?_); rintro e w6 ⟨up2, Sp2, rfl, owp2, hSp2, hbp2⟩; have SMp2 : w6.cell? ⟨(w.heap.size), 0, none⟩ = some (.int .i64 x0.C) ∧ w6.cell? ⟨(w.heap.size), 1, none⟩ = some (.slice Aa0_1 na0_1 ca0_1) ∧ w6.cell? ⟨(w.heap.size + 1), 0, none⟩ = some (.int .i64 x1.C) ∧ w6.cell? ⟨(w.heap.size + 1), 1, none⟩ = some (.slice Aa1_1 na1_1 ca1_1) ∧ w6.cell? ⟨(w.heap.size + 1 + 1), 0, none⟩ = some (.int .i64 x2.C) ∧ w6.cell? ⟨(w.heap.size + 1 + 1), 1, none⟩ = some (.slice Aa2_1 na2_1 ca2_1) := ⟨(Blk.cell ((((Ba0.drew).below hbp0).below hbp1).below hbp2) 0 (by simp)), (Blk.cell ((((Ba0.drew).below hbp0).below hbp1).below hbp2) 1 (by simp)), (Blk.cell ((((Ba1.drew).below hbp0).below hbp1).below hbp2) 0 (by simp)), (Blk.cell ((((Ba1.drew).below hbp0).below hbp1).below hbp2) 1 (by simp)), (Blk.cell ((((Ba2.drew).below hbp0).below hbp1).below hbp2) 0 (by simp)), (Blk.cell ((((Ba2.drew).below hbp0).below hbp1).below hbp2) 1 (by simp))⟩) | (go_at_call 17; (with_reducible refine (toOk_c toI_ok (.slice A3 x3.length c3) x3 w6 (spI.rd_below (spI.rd_below (spI.rd_below (spI.rd_drew (spI.rd_below RW3.out L)) hbp0) hbp1) hbp2) s3').mono ?_); rintro e w7 ⟨up3, Sp3, rfl, owp3, hSp3, hbp3⟩; have SMp3 : w7.cell? ⟨(w.heap.size), 0, none⟩ = some (.int .i64 x0.C) ∧ w7.cell? ⟨(w.heap.size), 1, none⟩ = some (.slice Aa0_1 na0_1 ca0_1) ∧ w7.cell? ⟨(w.heap.size + 1), 0, none⟩ = some (.int .i64 x1.C) ∧ w7.cell? ⟨(w.heap.size + 1), 1, none⟩ = some (.slice Aa1_1 na1_1 ca1_1) ∧ w7.cell? ⟨(w.heap.size + 1 + 1), 0, none⟩ = some (.int .i64 x2.C) ∧ w7.cell? ⟨(w.heap.size + 1 + 1), 1, none⟩ = some (.slice Aa2_1 na2_1 ca2_1) := ⟨(Blk.cell (((((Ba0.drew).below hbp0).below hbp1).below hbp2).below hbp3) 0 (by simp)), (Blk.cell (((((Ba0.drew).below hbp0).below hbp1).below hbp2).below hbp3) 1 (by simp)), (Blk.cell (((((Ba1.drew).below hbp0).below hbp1).below hbp2).below hbp3) 0 (by simp)), (Blk.cell (((((Ba1.drew).below hbp0).below hbp1).below hbp2).below hbp3) 1 (by simp)), (Blk.cell (((((Ba2.drew).below hbp0).below hbp1).below hbp2).below hbp3) 0 (by simp)), (Blk.cell (((((Ba2.drew).below hbp0).below hbp1).below hbp2).below hbp3) 1 (by simp))⟩) | (go_at_call 15; (with_reducible refine (sIsSmithProof_ok up0 x0 up1 x1 up2 x2 up3 x3 w7 (rdTabC_of (spTab.own_below (spTab.own_below (spTab.own_below owp0 hbp1) hbp2) hbp3)) (rdTabC_of (spTab.own_below (spTab.own_below owp1 hbp2) hbp3)) (rdTabC_of (spTab.own_below owp2 hbp3)) (spI.own_rd owp3) s0' s1' s2' s3').mono ?_); rintro e w8 ⟨rfl, hbf⟩; have SMf : w8.cell? ⟨(w.heap.size), 0, none⟩ = some (.int .i64 x0.C) ∧ w8.cell? ⟨(w.heap.size), 1, none⟩ = some (.slice Aa0_1 na0_1 ca0_1) ∧ w8.cell? ⟨(w.heap.size + 1), 0, none⟩ = some (.int .i64 x1.C) ∧ w8.cell? ⟨(w.heap.size + 1), 1, none⟩ = some (.slice Aa1_1 na1_1 ca1_1) ∧ w8.cell? ⟨(w.heap.size + 1 + 1), 0, none⟩ = some (.int .i64 x2.C) ∧ w8.cell? ⟨(w.heap.size + 1 + 1), 1, none⟩ = some (.slice Aa2_1 na2_1 ca2_1) := ⟨(Blk.cell ((((((Ba0.drew).below hbp0).below hbp1).below hbp2).below hbp3).below hbf) 0 (by simp)), (Blk.cell ((((((Ba0.drew).below hbp0).below hbp1).below hbp2).below hbp3).below hbf) 1 (by simp)), (Blk.cell ((((((Ba1.drew).below hbp0).below hbp1).below hbp2).below hbp3).below hbf) 0 (by simp)), (Blk.cell ((((((Ba1.drew).below hbp0).below hbp1).below hbp2).below hbp3).below hbf) 1 (by simp)), (Blk.cell ((((((Ba2.drew).below hbp0).below hbp1).below hbp2).below hbp3).below hbf) 0 (by simp)), (Blk.cell ((((((Ba2.drew).below hbp0).below hbp1).below hbp2).below hbp3).below hbf) 1 (by simp))⟩))
          clear ba0l ba00 ba01 ba1l ba10 ba11 ba2l ba20 ba21
          replace Ba0 := Ba0.below hd
          replace Ba1 := Ba1.below hd
          replace Ba2 := Ba2.below hd
          replace L := bstep L L.size hd
          replace Ba0 := Ba0.below hbp0
          replace Ba1 := Ba1.below hbp0
          replace Ba2 := Ba2.below hbp0
          replace L := bstep L L.size hbp0
          replace Ba0 := Ba0.below hbp1
          replace Ba1 := Ba1.below hbp1
          replace Ba2 := Ba2.below hbp1
          replace L := bstep L L.size hbp1
          replace Ba0 := Ba0.below hbp2
          replace Ba1 := Ba1.below hbp2
          replace Ba2 := Ba2.below hbp2
          replace L := bstep L L.size hbp2
          replace Ba0 := Ba0.below hbp3
          replace Ba1 := Ba1.below hbp3
          replace Ba2 := Ba2.below hbp3
          replace L := bstep L L.size hbp3
          clear hd hsz hszd hbp0 hbp1 hbp2 hbp3 SMp0 owp0 hSp0 SMp1 owp1 hSp1 SMp2 owp2 hSp2 SMp3 owp3 hSp3 SMf
          replace Ba0 := Ba0.below hbf
          replace Ba1 := Ba1.below hbf
          replace Ba2 := Ba2.below hbf
          replace L := bstep L L.size hbf
          clear hbf
          obtain ⟨ba0l, ba00, ba01⟩ := Ba0.c2
          obtain ⟨ba1l, ba10, ba11⟩ := Ba1.c2
          obtain ⟨ba2l, ba20, ba21⟩ := Ba2.c2
          go_wp2_with (fail)
          refine (toTab_ok (.agg #[.int .i64 x0.C, .slice Aa0_1 na0_1 ca0_1]) x0 w8 (spTab.rd_below RW0.out L) s0').mono ?_; rintro e w9 ⟨uq0, Sq0, rfl, owq0, hSq0, hb⟩
          clear ba0l ba00 ba01 ba1l ba10 ba11 ba2l ba20 ba21
          have Na0_q0 : ¬ Sq0 (w.heap.size) := fun g => by have := hSq0 _ g; have := Ba0.lt; omega
          have Na1_q0 : ¬ Sq0 (w.heap.size + 1) := fun g => by have := hSq0 _ g; have := Ba1.lt; omega
          have Na2_q0 : ¬ Sq0 (w.heap.size + 1 + 1) := fun g => by have := hSq0 _ g; have := Ba2.lt; omega
          have Hq0 : Hid (∀ k, Sq0 k → w.heap.size ≤ k) := Lib.hid fun k g => by have := hSq0 k g; have := L.size; omega
          replace Ba0 := Ba0.below hb
          replace Ba1 := Ba1.below hb
          replace Ba2 := Ba2.below hb
          replace L := bstep L L.size hb
          clear hb hSq0
          obtain ⟨Aq0_1, nq0_1, cq0_1, rfl, -⟩ := spTab_form (spTab.own_rd owq0)
          have Oq0 := Lib.hid owq0
          clear owq0
          have Bq0 := Blk.new w9 [.int .i64 x0.C, .slice Aq0_1 nq0_1 cq0_1] 28
          have Nq0_q0 : ¬ Sq0 w9.heap.size := fun g => by have := spTab.own_lt Oq0.out g; omega
          have hbx : Below w9.heap.size w9 (w9.alloc (.cells [.int .i64 x0.C, .slice Aq0_1 nq0_1 cq0_1].toArray 28)) := (Below.refl _ _).alloc (Nat.le_refl _) _
          replace Oq0 := Lib.hid (spTab.own_below Oq0.out hbx)
          replace Ba0 := Ba0.below hbx
          replace Ba1 := Ba1.below hbx
          replace Ba2 := Ba2.below hbx
          replace L := bstep L L.size hbx
          clear hbx
          obtain ⟨ba0l, ba00, ba01⟩ := Ba0.c2
          obtain ⟨ba1l, ba10, ba11⟩ := Ba1.c2
          obtain ⟨ba2l, ba20, ba21⟩ := Ba2.c2
          obtain ⟨bq0l, bq00, bq01⟩ := Bq0.c2
          go_wp2_with (fail)
          refine (toTab_ok (.agg #[.int .i64 x1.C, .slice Aa1_1 na1_1 ca1_1]) x1 (w9.alloc (.cells [.int .i64 x0.C, .slice Aq0_1 nq0_1 cq0_1].toArray 28)) (spTab.rd_below RW1.out L) s1').mono ?_; rintro e w10 ⟨uq1, Sq1, rfl, owq1, hSq1, hb⟩
          clear ba0l ba00 ba01 ba1l ba10 ba11 ba2l ba20 ba21 bq0l bq00 bq01
          have Dq0_q1 : Hid (∀ k, Sq0 k → ¬ Sq1 k) := Lib.hid fun k g1 g2 => by have := spTab.own_lt Oq0.out g1; have := hSq1 k g2; omega
          have Na0_q1 : ¬ Sq1 (w.heap.size) := fun g => by have := hSq1 _ g; have := Ba0.lt; omega
          have Na1_q1 : ¬ Sq1 (w.heap.size + 1) := fun g => by have := hSq1 _ g; have := Ba1.lt; omega
          have Na2_q1 : ¬ Sq1 (w.heap.size + 1 + 1) := fun g => by have := hSq1 _ g; have := Ba2.lt; omega
          have Nq0_q1 : ¬ Sq1 w9.heap.size := fun g => by have := hSq1 _ g; have := Bq0.lt; omega
          have Hq1 : Hid (∀ k, Sq1 k → w.heap.size ≤ k) := Lib.hid fun k g => by have := hSq1 k g; have := L.size; omega
          replace Oq0 := Lib.hid (spTab.own_below Oq0.out hb)
          replace Ba0 := Ba0.below hb
          replace Ba1 := Ba1.below hb
          replace Ba2 := Ba2.below hb
          replace Bq0 := Bq0.below hb
          replace L := bstep L L.size hb
          clear hb hSq1
          obtain ⟨Aq1_1, nq1_1, cq1_1, rfl, -⟩ := spTab_form (spTab.own_rd owq1)
          have Oq1 := Lib.hid owq1
          clear owq1
          have Bq1 := Blk.new w10 [.int .i64 x1.C, .slice Aq1_1 nq1_1 cq1_1] 28
          have Nq1_q0 : ¬ Sq0 w10.heap.size := fun g => by have := spTab.own_lt Oq0.out g; omega
          have Nq1_q1 : ¬ Sq1 w10.heap.size := fun g => by have := spTab.own_lt Oq1.out g; omega
          have hbx : Below w10.heap.size w10 (w10.alloc (.cells [.int .i64 x1.C, .slice Aq1_1 nq1_1 cq1_1].toArray 28)) := (Below.refl _ _).alloc (Nat.le_refl _) _
          replace Oq0 := Lib.hid (spTab.own_below Oq0.out hbx)
          replace Oq1 := Lib.hid (spTab.own_below Oq1.out hbx)
          replace Ba0 := Ba0.below hbx
          replace Ba1 := Ba1.below hbx
          replace Ba2 := Ba2.below hbx
          replace Bq0 := Bq0.below hbx
          replace L := bstep L L.size hbx
          clear hbx
          obtain ⟨ba0l, ba00, ba01⟩ := Ba0.c2
          obtain ⟨ba1l, ba10, ba11⟩ := Ba1.c2
          obtain ⟨ba2l, ba20, ba21⟩ := Ba2.c2
          obtain ⟨bq0l, bq00, bq01⟩ := Bq0.c2
          obtain ⟨bq1l, bq10, bq11⟩ := Bq1.c2
          go_wp2_with (fail)
          refine (toTab_ok (.agg #[.int .i64 x2.C, .slice Aa2_1 na2_1 ca2_1]) x2 (w10.alloc (.cells [.int .i64 x1.C, .slice Aq1_1 nq1_1 cq1_1].toArray 28)) (spTab.rd_below RW2.out L) s2').mono ?_; rintro e w11 ⟨uq2, Sq2, rfl, owq2, hSq2, hb⟩
          clear ba0l ba00 ba01 ba1l ba10 ba11 ba2l ba20 ba21 bq0l bq00 bq01 bq1l bq10 bq11
          have Dq0_q2 : Hid (∀ k, Sq0 k → ¬ Sq2 k) := Lib.hid fun k g1 g2 => by have := spTab.own_lt Oq0.out g1; have := hSq2 k g2; omega
          have Dq1_q2 : Hid (∀ k, Sq1 k → ¬ Sq2 k) := Lib.hid fun k g1 g2 => by have := spTab.own_lt Oq1.out g1; have := hSq2 k g2; omega
          have Na0_q2 : ¬ Sq2 (w.heap.size) := fun g => by have := hSq2 _ g; have := Ba0.lt; omega
          have Na1_q2 : ¬ Sq2 (w.heap.size + 1) := fun g => by have := hSq2 _ g; have := Ba1.lt; omega
          have Na2_q2 : ¬ Sq2 (w.heap.size + 1 + 1) := fun g => by have := hSq2 _ g; have := Ba2.lt; omega
          have Nq0_q2 : ¬ Sq2 w9.heap.size := fun g => by have := hSq2 _ g; have := Bq0.lt; omega
          have Nq1_q2 : ¬ Sq2 w10.heap.size := fun g => by have := hSq2 _ g; have := Bq1.lt; omega
          have Hq2 : Hid (∀ k, Sq2 k → w.heap.size ≤ k) := Lib.hid fun k g => by have := hSq2 k g; have := L.size; omega
          replace Oq0 := Lib.hid (spTab.own_below Oq0.out hb)
          replace Oq1 := Lib.hid (spTab.own_below Oq1.out hb)
          replace Ba0 := Ba0.below hb
          replace Ba1 := Ba1.below hb
          replace Ba2 := Ba2.below hb
          replace Bq0 := Bq0.below hb
          replace Bq1 := Bq1.below hb
          replace L := bstep L L.size hb
          clear hb hSq2
          obtain ⟨Aq2_1, nq2_1, cq2_1, rfl, -⟩ := spTab_form (spTab.own_rd owq2)
          have Oq2 := Lib.hid owq2
          clear owq2
          have Bq2 := Blk.new w11 [.int .i64 x2.C, .slice Aq2_1 nq2_1 cq2_1] 28
          have Nq2_q0 : ¬ Sq0 w11.heap.size := fun g => by have := spTab.own_lt Oq0.out g; omega
          have Nq2_q1 : ¬ Sq1 w11.heap.size := fun g => by have := spTab.own_lt Oq1.out g; omega
          have Nq2_q2 : ¬ Sq2 w11.heap.size := fun g => by have := spTab.own_lt Oq2.out g; omega
          have hbx : Below w11.heap.size w11 (w11.alloc (.cells [.int .i64 x2.C, .slice Aq2_1 nq2_1 cq2_1].toArray 28)) := (Below.refl _ _).alloc (Nat.le_refl _) _
          replace Oq0 := Lib.hid (spTab.own_below Oq0.out hbx)
          replace Oq1 := Lib.hid (spTab.own_below Oq1.out hbx)
          replace Oq2 := Lib.hid (spTab.own_below Oq2.out hbx)
          replace Ba0 := Ba0.below hbx
          replace Ba1 := Ba1.below hbx
          replace Ba2 := Ba2.below hbx
          replace Bq0 := Bq0.below hbx
          replace Bq1 := Bq1.below hbx
          replace L := bstep L L.size hbx
          clear hbx
          obtain ⟨ba0l, ba00, ba01⟩ := Ba0.c2
          obtain ⟨ba1l, ba10, ba11⟩ := Ba1.c2
          obtain ⟨ba2l, ba20, ba21⟩ := Ba2.c2
          obtain ⟨bq0l, bq00, bq01⟩ := Bq0.c2
          obtain ⟨bq1l, bq10, bq11⟩ := Bq1.c2
          obtain ⟨bq2l, bq20, bq21⟩ := Bq2.c2
          go_wp2_with (fail)
          refine (toI_ok (.slice A3 x3.length c3) x3 (w11.alloc (.cells [.int .i64 x2.C, .slice Aq2_1 nq2_1 cq2_1].toArray 28)) (spI.rd_below RW3.out L) s3').mono ?_; rintro e w12 ⟨uq3, Sq3, rfl, owq3, hSq3, hb⟩
          clear ba0l ba00 ba01 ba1l ba10 ba11 ba2l ba20 ba21 bq0l bq00 bq01 bq1l bq10 bq11 bq2l bq20 bq21
          have Dq0_q3 : Hid (∀ k, Sq0 k → ¬ Sq3 k) := Lib.hid fun k g1 g2 => by have := spTab.own_lt Oq0.out g1; have := hSq3 k g2; omega
          have Dq1_q3 : Hid (∀ k, Sq1 k → ¬ Sq3 k) := Lib.hid fun k g1 g2 => by have := spTab.own_lt Oq1.out g1; have := hSq3 k g2; omega
          have Dq2_q3 : Hid (∀ k, Sq2 k → ¬ Sq3 k) := Lib.hid fun k g1 g2 => by have := spTab.own_lt Oq2.out g1; have := hSq3 k g2; omega
          have Na0_q3 : ¬ Sq3 (w.heap.size) := fun g => by have := hSq3 _ g; have := Ba0.lt; omega
          have Na1_q3 : ¬ Sq3 (w.heap.size + 1) := fun g => by have := hSq3 _ g; have := Ba1.lt; omega
          have Na2_q3 : ¬ Sq3 (w.heap.size + 1 + 1) := fun g => by have := hSq3 _ g; have := Ba2.lt; omega
          have Nq0_q3 : ¬ Sq3 w9.heap.size := fun g => by have := hSq3 _ g; have := Bq0.lt; omega
          have Nq1_q3 : ¬ Sq3 w10.heap.size := fun g => by have := hSq3 _ g; have := Bq1.lt; omega
          have Nq2_q3 : ¬ Sq3 w11.heap.size := fun g => by have := hSq3 _ g; have := Bq2.lt; omega
          have Hq3 : Hid (∀ k, Sq3 k → w.heap.size ≤ k) := Lib.hid fun k g => by have := hSq3 k g; have := L.size; omega
          replace Oq0 := Lib.hid (spTab.own_below Oq0.out hb)
          replace Oq1 := Lib.hid (spTab.own_below Oq1.out hb)
          replace Oq2 := Lib.hid (spTab.own_below Oq2.out hb)
          replace Ba0 := Ba0.below hb
          replace Ba1 := Ba1.below hb
          replace Ba2 := Ba2.below hb
          replace Bq0 := Bq0.below hb
          replace Bq1 := Bq1.below hb
          replace Bq2 := Bq2.below hb
          replace L := bstep L L.size hb
          clear hb hSq3
          have Oq3 := Lib.hid owq3
          clear owq3
          obtain ⟨ba0l, ba00, ba01⟩ := Ba0.c2
          obtain ⟨ba1l, ba10, ba11⟩ := Ba1.c2
          obtain ⟨ba2l, ba20, ba21⟩ := Ba2.c2
          obtain ⟨bq0l, bq00, bq01⟩ := Bq0.c2
          obtain ⟨bq1l, bq10, bq11⟩ := Bq1.c2
          obtain ⟨bq2l, bq20, bq21⟩ := Bq2.c2
          go_wp2_with (fail)
          refine (iIsSmithProof_ok (.agg #[.int .i64 x0.C, .slice Aq0_1 nq0_1 cq0_1]) x0 (.agg #[.int .i64 x1.C, .slice Aq1_1 nq1_1 cq1_1]) x1 (.agg #[.int .i64 x2.C, .slice Aq2_1 nq2_1 cq2_1]) x2 uq3 x3 w12 (spTab.own_rd Oq0.out) (spTab.own_rd Oq1.out) (spTab.own_rd Oq2.out) (spI.own_rd Oq3.out) s0' s1' s2' s3').mono ?_; rintro e w13 ⟨rfl, hb⟩
          clear ba0l ba00 ba01 ba1l ba10 ba11 ba2l ba20 ba21 bq0l bq00 bq01 bq1l bq10 bq11 bq2l bq20 bq21
          replace Oq0 := Lib.hid (spTab.own_below Oq0.out hb)
          replace Oq1 := Lib.hid (spTab.own_below Oq1.out hb)
          replace Oq2 := Lib.hid (spTab.own_below Oq2.out hb)
          replace Oq3 := Lib.hid (spI.own_below Oq3.out hb)
          replace Ba0 := Ba0.below hb
          replace Ba1 := Ba1.below hb
          replace Ba2 := Ba2.below hb
          replace Bq0 := Bq0.below hb
          replace Bq1 := Bq1.below hb
          replace Bq2 := Bq2.below hb
          replace L := bstep L L.size hb
          clear hb
          obtain ⟨ba0l, ba00, ba01⟩ := Ba0.c2
          obtain ⟨ba1l, ba10, ba11⟩ := Ba1.c2
          obtain ⟨ba2l, ba20, ba21⟩ := Ba2.c2
          obtain ⟨bq0l, bq00, bq01⟩ := Bq0.c2
          obtain ⟨bq1l, bq10, bq11⟩ := Bq1.c2
          obtain ⟨bq2l, bq20, bq21⟩ := Bq2.c2
          have HT := Lib.hid (toTab_ok (.agg #[.int .i64 x0.C, .slice Aa0_1 na0_1 ca0_1]) x0 w13.drew (spTab.rd_drew (spTab.rd_below RW0.out L)) s0')
          go_wp2_with (fail)
          go_region_held3 (fun wx => wx.cell? ⟨w9.heap.size, 0, none⟩ = some (.int .i64 x0.C) ∧ wx.cell? ⟨w9.heap.size, 1, none⟩ = some (.slice Aq0_1 nq0_1 cq0_1) ∧ wx.cell? ⟨(w.heap.size), 0, none⟩ = some (.int .i64 x0.C) ∧ wx.cell? ⟨(w.heap.size), 1, none⟩ = some (.slice Aa0_1 na0_1 ca0_1)) (first | go_keep | assumption) (first | (go_at_call 16; refine HT.out.mono ?_; rintro e w14 ⟨ut0, St0, rfl, owt0, hSt0, hb⟩; have SM : w14.cell? ⟨w9.heap.size, 0, none⟩ = some (.int .i64 x0.C) ∧ w14.cell? ⟨w9.heap.size, 1, none⟩ = some (.slice Aq0_1 nq0_1 cq0_1) ∧ w14.cell? ⟨(w.heap.size), 0, none⟩ = some (.int .i64 x0.C) ∧ w14.cell? ⟨(w.heap.size), 1, none⟩ = some (.slice Aa0_1 na0_1 ca0_1) := ⟨(Blk.cell (Bq0.drew.below hb) 0 (by simp)), (Blk.cell (Bq0.drew.below hb) 1 (by simp)), (Blk.cell (Ba0.drew.below hb) 0 (by simp)), (Blk.cell (Ba0.drew.below hb) 1 (by simp))⟩) | (go_at_call 19; refine (eqTab_ok (.agg #[.int .i64 x0.C, .slice Aq0_1 nq0_1 cq0_1]) _ x0 _ (spTab.rd_below (spTab.rd_drew (spTab.own_rd Oq0.out)) hb) (spTab.own_rd owt0)).mono ?_; rintro e w15 ⟨rfl, hb2⟩; have SM2 : w15.cell? ⟨w9.heap.size, 0, none⟩ = some (.int .i64 x0.C) ∧ w15.cell? ⟨w9.heap.size, 1, none⟩ = some (.slice Aq0_1 nq0_1 cq0_1) ∧ w15.cell? ⟨(w.heap.size), 0, none⟩ = some (.int .i64 x0.C) ∧ w15.cell? ⟨(w.heap.size), 1, none⟩ = some (.slice Aa0_1 na0_1 ca0_1) := ⟨(Blk.cell ((Bq0.drew.below hb).below hb2) 0 (by simp)), (Blk.cell ((Bq0.drew.below hb).below hb2) 1 (by simp)), (Blk.cell ((Ba0.drew.below hb).below hb2) 0 (by simp)), (Blk.cell ((Ba0.drew.below hb).below hb2) 1 (by simp))⟩))
          clear ba0l ba00 ba01 ba1l ba10 ba11 ba2l ba20 ba21 bq0l bq00 bq01 bq1l bq10 bq11 bq2l bq20 bq21
          have hd : Below w13.heap.size w13 w13.drew := (Below.refl _ _).drew
          replace Oq0 := Lib.hid (spTab.own_below Oq0.out hd)
          replace Oq1 := Lib.hid (spTab.own_below Oq1.out hd)
          replace Oq2 := Lib.hid (spTab.own_below Oq2.out hd)
          replace Oq3 := Lib.hid (spI.own_below Oq3.out hd)
          replace Ba0 := Ba0.below hd
          replace Ba1 := Ba1.below hd
          replace Ba2 := Ba2.below hd
          replace Bq0 := Bq0.below hd
          replace Bq1 := Bq1.below hd
          replace Bq2 := Bq2.below hd
          replace L := bstep L L.size hd
          replace Oq0 := Lib.hid (spTab.own_below Oq0.out hb)
          replace Oq1 := Lib.hid (spTab.own_below Oq1.out hb)
          replace Oq2 := Lib.hid (spTab.own_below Oq2.out hb)
          replace Oq3 := Lib.hid (spI.own_below Oq3.out hb)
          replace Ba0 := Ba0.below hb
          replace Ba1 := Ba1.below hb
          replace Ba2 := Ba2.below hb
          replace Bq0 := Bq0.below hb
          replace Bq1 := Bq1.below hb
          replace Bq2 := Bq2.below hb
          replace L := bstep L L.size hb
          replace Oq0 := Lib.hid (spTab.own_below Oq0.out hb2)
          replace Oq1 := Lib.hid (spTab.own_below Oq1.out hb2)
          replace Oq2 := Lib.hid (spTab.own_below Oq2.out hb2)
          replace Oq3 := Lib.hid (spI.own_below Oq3.out hb2)
          replace Ba0 := Ba0.below hb2
          replace Ba1 := Ba1.below hb2
          replace Ba2 := Ba2.below hb2
          replace Bq0 := Bq0.below hb2
          replace Bq1 := Bq1.below hb2
          replace Bq2 := Bq2.below hb2
          replace L := bstep L L.size hb2
          clear hd hb hb2 HT SM SM2 owt0 hSt0
          obtain ⟨ba0l, ba00, ba01⟩ := Ba0.c2
          obtain ⟨ba1l, ba10, ba11⟩ := Ba1.c2
          obtain ⟨ba2l, ba20, ba21⟩ := Ba2.c2
          obtain ⟨bq0l, bq00, bq01⟩ := Bq0.c2
          obtain ⟨bq1l, bq10, bq11⟩ := Bq1.c2
          obtain ⟨bq2l, bq20, bq21⟩ := Bq2.c2
          have HT := Lib.hid (toTab_ok (.agg #[.int .i64 x1.C, .slice Aa1_1 na1_1 ca1_1]) x1 w15.drew (spTab.rd_drew (spTab.rd_below RW1.out L)) s1')
          go_wp2_with (fail)
          go_region_held3 (fun wx => wx.cell? ⟨w10.heap.size, 0, none⟩ = some (.int .i64 x1.C) ∧ wx.cell? ⟨w10.heap.size, 1, none⟩ = some (.slice Aq1_1 nq1_1 cq1_1) ∧ wx.cell? ⟨(w.heap.size + 1), 0, none⟩ = some (.int .i64 x1.C) ∧ wx.cell? ⟨(w.heap.size + 1), 1, none⟩ = some (.slice Aa1_1 na1_1 ca1_1)) (first | go_keep | assumption) (first | (go_at_call 16; refine HT.out.mono ?_; rintro e w16 ⟨ut1, St1, rfl, owt1, hSt1, hb⟩; have SM : w16.cell? ⟨w10.heap.size, 0, none⟩ = some (.int .i64 x1.C) ∧ w16.cell? ⟨w10.heap.size, 1, none⟩ = some (.slice Aq1_1 nq1_1 cq1_1) ∧ w16.cell? ⟨(w.heap.size + 1), 0, none⟩ = some (.int .i64 x1.C) ∧ w16.cell? ⟨(w.heap.size + 1), 1, none⟩ = some (.slice Aa1_1 na1_1 ca1_1) := ⟨(Blk.cell (Bq1.drew.below hb) 0 (by simp)), (Blk.cell (Bq1.drew.below hb) 1 (by simp)), (Blk.cell (Ba1.drew.below hb) 0 (by simp)), (Blk.cell (Ba1.drew.below hb) 1 (by simp))⟩) | (go_at_call 19; refine (eqTab_ok (.agg #[.int .i64 x1.C, .slice Aq1_1 nq1_1 cq1_1]) _ x1 _ (spTab.rd_below (spTab.rd_drew (spTab.own_rd Oq1.out)) hb) (spTab.own_rd owt1)).mono ?_; rintro e w17 ⟨rfl, hb2⟩; have SM2 : w17.cell? ⟨w10.heap.size, 0, none⟩ = some (.int .i64 x1.C) ∧ w17.cell? ⟨w10.heap.size, 1, none⟩ = some (.slice Aq1_1 nq1_1 cq1_1) ∧ w17.cell? ⟨(w.heap.size + 1), 0, none⟩ = some (.int .i64 x1.C) ∧ w17.cell? ⟨(w.heap.size + 1), 1, none⟩ = some (.slice Aa1_1 na1_1 ca1_1) := ⟨(Blk.cell ((Bq1.drew.below hb).below hb2) 0 (by simp)), (Blk.cell ((Bq1.drew.below hb).below hb2) 1 (by simp)), (Blk.cell ((Ba1.drew.below hb).below hb2) 0 (by simp)), (Blk.cell ((Ba1.drew.below hb).below hb2) 1 (by simp))⟩))
          clear ba0l ba00 ba01 ba1l ba10 ba11 ba2l ba20 ba21 bq0l bq00 bq01 bq1l bq10 bq11 bq2l bq20 bq21
          have hd : Below w15.heap.size w15 w15.drew := (Below.refl _ _).drew
          replace Oq0 := Lib.hid (spTab.own_below Oq0.out hd)
          replace Oq1 := Lib.hid (spTab.own_below Oq1.out hd)
          replace Oq2 := Lib.hid (spTab.own_below Oq2.out hd)
          replace Oq3 := Lib.hid (spI.own_below Oq3.out hd)
          replace Ba0 := Ba0.below hd
          replace Ba1 := Ba1.below hd
          replace Ba2 := Ba2.below hd
          replace Bq0 := Bq0.below hd
          replace Bq1 := Bq1.below hd
          replace Bq2 := Bq2.below hd
          replace L := bstep L L.size hd
          replace Oq0 := Lib.hid (spTab.own_below Oq0.out hb)
          replace Oq1 := Lib.hid (spTab.own_below Oq1.out hb)
          replace Oq2 := Lib.hid (spTab.own_below Oq2.out hb)
          replace Oq3 := Lib.hid (spI.own_below Oq3.out hb)
          replace Ba0 := Ba0.below hb
          replace Ba1 := Ba1.below hb
          replace Ba2 := Ba2.below hb
          replace Bq0 := Bq0.below hb
          replace Bq1 := Bq1.below hb
          replace Bq2 := Bq2.below hb
          replace L := bstep L L.size hb
          replace Oq0 := Lib.hid (spTab.own_below Oq0.out hb2)
          replace Oq1 := Lib.hid (spTab.own_below Oq1.out hb2)
          replace Oq2 := Lib.hid (spTab.own_below Oq2.out hb2)
          replace Oq3 := Lib.hid (spI.own_below Oq3.out hb2)
          replace Ba0 := Ba0.below hb2
          replace Ba1 := Ba1.below hb2
          replace Ba2 := Ba2.below hb2
          replace Bq0 := Bq0.below hb2
          replace Bq1 := Bq1.below hb2
          replace Bq2 := Bq2.below hb2
          replace L := bstep L L.size hb2
          clear hd hb hb2 HT SM SM2 owt1 hSt1
          obtain ⟨ba0l, ba00, ba01⟩ := Ba0.c2
          obtain ⟨ba1l, ba10, ba11⟩ := Ba1.c2
          obtain ⟨ba2l, ba20, ba21⟩ := Ba2.c2
          obtain ⟨bq0l, bq00, bq01⟩ := Bq0.c2
          obtain ⟨bq1l, bq10, bq11⟩ := Bq1.c2
          obtain ⟨bq2l, bq20, bq21⟩ := Bq2.c2
          have HT := Lib.hid (toTab_ok (.agg #[.int .i64 x2.C, .slice Aa2_1 na2_1 ca2_1]) x2 w17.drew (spTab.rd_drew (spTab.rd_below RW2.out L)) s2')
          go_wp2_with (fail)
          go_region_held3 (fun wx => wx.cell? ⟨w11.heap.size, 0, none⟩ = some (.int .i64 x2.C) ∧ wx.cell? ⟨w11.heap.size, 1, none⟩ = some (.slice Aq2_1 nq2_1 cq2_1) ∧ wx.cell? ⟨(w.heap.size + 1 + 1), 0, none⟩ = some (.int .i64 x2.C) ∧ wx.cell? ⟨(w.heap.size + 1 + 1), 1, none⟩ = some (.slice Aa2_1 na2_1 ca2_1)) (first | go_keep | assumption) (first | (go_at_call 16; refine HT.out.mono ?_; rintro e w18 ⟨ut2, St2, rfl, owt2, hSt2, hb⟩; have SM : w18.cell? ⟨w11.heap.size, 0, none⟩ = some (.int .i64 x2.C) ∧ w18.cell? ⟨w11.heap.size, 1, none⟩ = some (.slice Aq2_1 nq2_1 cq2_1) ∧ w18.cell? ⟨(w.heap.size + 1 + 1), 0, none⟩ = some (.int .i64 x2.C) ∧ w18.cell? ⟨(w.heap.size + 1 + 1), 1, none⟩ = some (.slice Aa2_1 na2_1 ca2_1) := ⟨(Blk.cell (Bq2.drew.below hb) 0 (by simp)), (Blk.cell (Bq2.drew.below hb) 1 (by simp)), (Blk.cell (Ba2.drew.below hb) 0 (by simp)), (Blk.cell (Ba2.drew.below hb) 1 (by simp))⟩) | (go_at_call 19; refine (eqTab_ok (.agg #[.int .i64 x2.C, .slice Aq2_1 nq2_1 cq2_1]) _ x2 _ (spTab.rd_below (spTab.rd_drew (spTab.own_rd Oq2.out)) hb) (spTab.own_rd owt2)).mono ?_; rintro e w19 ⟨rfl, hb2⟩; have SM2 : w19.cell? ⟨w11.heap.size, 0, none⟩ = some (.int .i64 x2.C) ∧ w19.cell? ⟨w11.heap.size, 1, none⟩ = some (.slice Aq2_1 nq2_1 cq2_1) ∧ w19.cell? ⟨(w.heap.size + 1 + 1), 0, none⟩ = some (.int .i64 x2.C) ∧ w19.cell? ⟨(w.heap.size + 1 + 1), 1, none⟩ = some (.slice Aa2_1 na2_1 ca2_1) := ⟨(Blk.cell ((Bq2.drew.below hb).below hb2) 0 (by simp)), (Blk.cell ((Bq2.drew.below hb).below hb2) 1 (by simp)), (Blk.cell ((Ba2.drew.below hb).below hb2) 0 (by simp)), (Blk.cell ((Ba2.drew.below hb).below hb2) 1 (by simp))⟩))
          clear ba0l ba00 ba01 ba1l ba10 ba11 ba2l ba20 ba21 bq0l bq00 bq01 bq1l bq10 bq11 bq2l bq20 bq21
          have hd : Below w17.heap.size w17 w17.drew := (Below.refl _ _).drew
          replace Oq0 := Lib.hid (spTab.own_below Oq0.out hd)
          replace Oq1 := Lib.hid (spTab.own_below Oq1.out hd)
          replace Oq2 := Lib.hid (spTab.own_below Oq2.out hd)
          replace Oq3 := Lib.hid (spI.own_below Oq3.out hd)
          replace Ba0 := Ba0.below hd
          replace Ba1 := Ba1.below hd
          replace Ba2 := Ba2.below hd
          replace Bq0 := Bq0.below hd
          replace Bq1 := Bq1.below hd
          replace Bq2 := Bq2.below hd
          replace L := bstep L L.size hd
          replace Oq0 := Lib.hid (spTab.own_below Oq0.out hb)
          replace Oq1 := Lib.hid (spTab.own_below Oq1.out hb)
          replace Oq2 := Lib.hid (spTab.own_below Oq2.out hb)
          replace Oq3 := Lib.hid (spI.own_below Oq3.out hb)
          replace Ba0 := Ba0.below hb
          replace Ba1 := Ba1.below hb
          replace Ba2 := Ba2.below hb
          replace Bq0 := Bq0.below hb
          replace Bq1 := Bq1.below hb
          replace Bq2 := Bq2.below hb
          replace L := bstep L L.size hb
          replace Oq0 := Lib.hid (spTab.own_below Oq0.out hb2)
          replace Oq1 := Lib.hid (spTab.own_below Oq1.out hb2)
          replace Oq2 := Lib.hid (spTab.own_below Oq2.out hb2)
          replace Oq3 := Lib.hid (spI.own_below Oq3.out hb2)
          replace Ba0 := Ba0.below hb2
          replace Ba1 := Ba1.below hb2
          replace Ba2 := Ba2.below hb2
          replace Bq0 := Bq0.below hb2
          replace Bq1 := Bq1.below hb2
          replace Bq2 := Bq2.below hb2
          replace L := bstep L L.size hb2
          clear hd hb hb2 HT SM SM2 owt2 hSt2
          obtain ⟨ba0l, ba00, ba01⟩ := Ba0.c2
          obtain ⟨ba1l, ba10, ba11⟩ := Ba1.c2
          obtain ⟨ba2l, ba20, ba21⟩ := Ba2.c2
          obtain ⟨bq0l, bq00, bq01⟩ := Bq0.c2
          obtain ⟨bq1l, bq10, bq11⟩ := Bq1.c2
          obtain ⟨bq2l, bq20, bq21⟩ := Bq2.c2
          go_wp2_with (fail)
          refine (toI_ok (.slice A3 x3.length c3) x3 w19 (spI.rd_below RW3.out L) s3').mono ?_; rintro e w20 ⟨ut3, St3, rfl, owt3, hSt3, hb⟩
          clear ba0l ba00 ba01 ba1l ba10 ba11 ba2l ba20 ba21 bq0l bq00 bq01 bq1l bq10 bq11 bq2l bq20 bq21
          have Dq0_t3 : Hid (∀ k, Sq0 k → ¬ St3 k) := Lib.hid fun k g1 g2 => by have := spTab.own_lt Oq0.out g1; have := hSt3 k g2; omega
          have Dq1_t3 : Hid (∀ k, Sq1 k → ¬ St3 k) := Lib.hid fun k g1 g2 => by have := spTab.own_lt Oq1.out g1; have := hSt3 k g2; omega
          have Dq2_t3 : Hid (∀ k, Sq2 k → ¬ St3 k) := Lib.hid fun k g1 g2 => by have := spTab.own_lt Oq2.out g1; have := hSt3 k g2; omega
          have Dq3_t3 : Hid (∀ k, Sq3 k → ¬ St3 k) := Lib.hid fun k g1 g2 => by have := spI.own_lt Oq3.out g1; have := hSt3 k g2; omega
          have Na0_t3 : ¬ St3 (w.heap.size) := fun g => by have := hSt3 _ g; have := Ba0.lt; omega
          have Na1_t3 : ¬ St3 (w.heap.size + 1) := fun g => by have := hSt3 _ g; have := Ba1.lt; omega
          have Na2_t3 : ¬ St3 (w.heap.size + 1 + 1) := fun g => by have := hSt3 _ g; have := Ba2.lt; omega
          have Nq0_t3 : ¬ St3 w9.heap.size := fun g => by have := hSt3 _ g; have := Bq0.lt; omega
          have Nq1_t3 : ¬ St3 w10.heap.size := fun g => by have := hSt3 _ g; have := Bq1.lt; omega
          have Nq2_t3 : ¬ St3 w11.heap.size := fun g => by have := hSt3 _ g; have := Bq2.lt; omega
          have Ht3 : Hid (∀ k, St3 k → w.heap.size ≤ k) := Lib.hid fun k g => by have := hSt3 k g; have := L.size; omega
          replace Oq0 := Lib.hid (spTab.own_below Oq0.out hb)
          replace Oq1 := Lib.hid (spTab.own_below Oq1.out hb)
          replace Oq2 := Lib.hid (spTab.own_below Oq2.out hb)
          replace Oq3 := Lib.hid (spI.own_below Oq3.out hb)
          replace Ba0 := Ba0.below hb
          replace Ba1 := Ba1.below hb
          replace Ba2 := Ba2.below hb
          replace Bq0 := Bq0.below hb
          replace Bq1 := Bq1.below hb
          replace Bq2 := Bq2.below hb
          replace L := bstep L L.size hb
          clear hb hSt3
          have Ot3 := Lib.hid owt3
          clear owt3
          obtain ⟨ba0l, ba00, ba01⟩ := Ba0.c2
          obtain ⟨ba1l, ba10, ba11⟩ := Ba1.c2
          obtain ⟨ba2l, ba20, ba21⟩ := Ba2.c2
          obtain ⟨bq0l, bq00, bq01⟩ := Bq0.c2
          obtain ⟨bq1l, bq10, bq11⟩ := Bq1.c2
          obtain ⟨bq2l, bq20, bq21⟩ := Bq2.c2
          go_wp2_with (fail)
          refine (eqI_ok uq3 ut3 x3 w20 (spI.own_rd Oq3.out) (spI.own_rd Ot3.out)).mono ?_; rintro e w21 ⟨rfl, hb⟩
          clear ba0l ba00 ba01 ba1l ba10 ba11 ba2l ba20 ba21 bq0l bq00 bq01 bq1l bq10 bq11 bq2l bq20 bq21
          replace Oq0 := Lib.hid (spTab.own_below Oq0.out hb)
          replace Oq1 := Lib.hid (spTab.own_below Oq1.out hb)
          replace Oq2 := Lib.hid (spTab.own_below Oq2.out hb)
          replace Oq3 := Lib.hid (spI.own_below Oq3.out hb)
          replace Ot3 := Lib.hid (spI.own_below Ot3.out hb)
          replace Ba0 := Ba0.below hb
          replace Ba1 := Ba1.below hb
          replace Ba2 := Ba2.below hb
          replace Bq0 := Bq0.below hb
          replace Bq1 := Bq1.below hb
          replace Bq2 := Bq2.below hb
          replace L := bstep L L.size hb
          clear hb
          obtain ⟨ba0l, ba00, ba01⟩ := Ba0.c2
          obtain ⟨ba1l, ba10, ba11⟩ := Ba1.c2
          obtain ⟨ba2l, ba20, ba21⟩ := Ba2.c2
          obtain ⟨bq0l, bq00, bq01⟩ := Bq0.c2
          obtain ⟨bq1l, bq10, bq11⟩ := Bq1.c2
          obtain ⟨bq2l, bq20, bq21⟩ := Bq2.c2
          go_wp2_with (fail)
          go_ret
          exact ⟨rfl, L⟩
        · obtain ⟨ba0l, ba00, ba01⟩ := Ba0.c2
          obtain ⟨ba1l, ba10, ba11⟩ := Ba1.c2
          obtain ⟨ba2l, ba20, ba21⟩ := Ba2.c2
          have HC := Lib.hid (szTab_ok (.agg #[.int .i64 x0.C, .slice Aa0_1 na0_1 ca0_1]) x0 (1048576) (((w.alloc (.cells [.int .i64 x0.C, .slice Aa0_1 na0_1 ca0_1].toArray 24)).alloc (.cells [.int .i64 x1.C, .slice Aa1_1 na1_1 ca1_1].toArray 24)).alloc (.cells [.int .i64 x2.C, .slice Aa2_1 na2_1 ca2_1].toArray 24)) (spTab.rd_below RW0.out L) (by omega) (by omega))
          rw [szLeft_yes (n := spTab.sz x0) (left := 1048576) (by omega)] at HC
          have g0 : 0 ≤ 1048576 - (spTab.sz x0 : Int) := by omega
          have g0' : 1048576 - (spTab.sz x0 : Int) ≤ 1048576 := by omega
          go_enter Try.func3, Try.ntmps3
          go_wp2_with (fail)
          refine HC.out.mono ?_; rintro e w1 ⟨rfl, hb⟩
          clear ba0l ba00 ba01 ba1l ba10 ba11 ba2l ba20 ba21
          clear HC
          replace Ba0 := Ba0.below hb
          replace Ba1 := Ba1.below hb
          replace Ba2 := Ba2.below hb
          replace L := bstep L L.size hb
          clear hb
          obtain ⟨ba0l, ba00, ba01⟩ := Ba0.c2
          obtain ⟨ba1l, ba10, ba11⟩ := Ba1.c2
          obtain ⟨ba2l, ba20, ba21⟩ := Ba2.c2
          have HC := Lib.hid (szTab_ok (.agg #[.int .i64 x1.C, .slice Aa1_1 na1_1 ca1_1]) x1 (1048576 - (spTab.sz x0 : Int)) w1 (spTab.rd_below RW1.out L) (by omega) (by omega))
          rw [szLeft_yes (n := spTab.sz x1) (left := 1048576 - (spTab.sz x0 : Int)) (by omega)] at HC
          have g1 : 0 ≤ 1048576 - (spTab.sz x0 : Int) - (spTab.sz x1 : Int) := by omega
          have g1' : 1048576 - (spTab.sz x0 : Int) - (spTab.sz x1 : Int) ≤ 1048576 := by omega
          go_wp2_with (fail)
          refine HC.out.mono ?_; rintro e w2 ⟨rfl, hb⟩
          clear ba0l ba00 ba01 ba1l ba10 ba11 ba2l ba20 ba21
          clear HC
          replace Ba0 := Ba0.below hb
          replace Ba1 := Ba1.below hb
          replace Ba2 := Ba2.below hb
          replace L := bstep L L.size hb
          clear hb
          obtain ⟨ba0l, ba00, ba01⟩ := Ba0.c2
          obtain ⟨ba1l, ba10, ba11⟩ := Ba1.c2
          obtain ⟨ba2l, ba20, ba21⟩ := Ba2.c2
          have HC := Lib.hid (szTab_ok (.agg #[.int .i64 x2.C, .slice Aa2_1 na2_1 ca2_1]) x2 (1048576 - (spTab.sz x0 : Int) - (spTab.sz x1 : Int)) w2 (spTab.rd_below RW2.out L) (by omega) (by omega))
          rw [szLeft_no (n := spTab.sz x2) (left := 1048576 - (spTab.sz x0 : Int) - (spTab.sz x1 : Int)) (by omega)] at HC
          go_wp2_with (fail)
          refine HC.out.mono ?_; rintro e w3 ⟨rfl, hb⟩
          clear ba0l ba00 ba01 ba1l ba10 ba11 ba2l ba20 ba21
          clear HC
          replace Ba0 := Ba0.below hb
          replace Ba1 := Ba1.below hb
          replace Ba2 := Ba2.below hb
          replace L := bstep L L.size hb
          clear hb
          obtain ⟨ba0l, ba00, ba01⟩ := Ba0.c2
          obtain ⟨ba1l, ba10, ba11⟩ := Ba1.c2
          obtain ⟨ba2l, ba20, ba21⟩ := Ba2.c2
          go_wp2_with (fail)
          go_ret
          exact ⟨rfl, L⟩
      · obtain ⟨ba0l, ba00, ba01⟩ := Ba0.c2
        obtain ⟨ba1l, ba10, ba11⟩ := Ba1.c2
        obtain ⟨ba2l, ba20, ba21⟩ := Ba2.c2
        have HC := Lib.hid (szTab_ok (.agg #[.int .i64 x0.C, .slice Aa0_1 na0_1 ca0_1]) x0 (1048576) (((w.alloc (.cells [.int .i64 x0.C, .slice Aa0_1 na0_1 ca0_1].toArray 24)).alloc (.cells [.int .i64 x1.C, .slice Aa1_1 na1_1 ca1_1].toArray 24)).alloc (.cells [.int .i64 x2.C, .slice Aa2_1 na2_1 ca2_1].toArray 24)) (spTab.rd_below RW0.out L) (by omega) (by omega))
        rw [szLeft_yes (n := spTab.sz x0) (left := 1048576) (by omega)] at HC
        have g0 : 0 ≤ 1048576 - (spTab.sz x0 : Int) := by omega
        have g0' : 1048576 - (spTab.sz x0 : Int) ≤ 1048576 := by omega
        go_enter Try.func3, Try.ntmps3
        go_wp2_with (fail)
        refine HC.out.mono ?_; rintro e w1 ⟨rfl, hb⟩
        clear ba0l ba00 ba01 ba1l ba10 ba11 ba2l ba20 ba21
        clear HC
        replace Ba0 := Ba0.below hb
        replace Ba1 := Ba1.below hb
        replace Ba2 := Ba2.below hb
        replace L := bstep L L.size hb
        clear hb
        obtain ⟨ba0l, ba00, ba01⟩ := Ba0.c2
        obtain ⟨ba1l, ba10, ba11⟩ := Ba1.c2
        obtain ⟨ba2l, ba20, ba21⟩ := Ba2.c2
        have HC := Lib.hid (szTab_ok (.agg #[.int .i64 x1.C, .slice Aa1_1 na1_1 ca1_1]) x1 (1048576 - (spTab.sz x0 : Int)) w1 (spTab.rd_below RW1.out L) (by omega) (by omega))
        rw [szLeft_no (n := spTab.sz x1) (left := 1048576 - (spTab.sz x0 : Int)) (by omega)] at HC
        go_wp2_with (fail)
        refine HC.out.mono ?_; rintro e w2 ⟨rfl, hb⟩
        clear ba0l ba00 ba01 ba1l ba10 ba11 ba2l ba20 ba21
        clear HC
        replace Ba0 := Ba0.below hb
        replace Ba1 := Ba1.below hb
        replace Ba2 := Ba2.below hb
        replace L := bstep L L.size hb
        clear hb
        obtain ⟨ba0l, ba00, ba01⟩ := Ba0.c2
        obtain ⟨ba1l, ba10, ba11⟩ := Ba1.c2
        obtain ⟨ba2l, ba20, ba21⟩ := Ba2.c2
        go_wp2_with (fail)
        go_ret
        exact ⟨rfl, L⟩
    · obtain ⟨ba0l, ba00, ba01⟩ := Ba0.c2
      obtain ⟨ba1l, ba10, ba11⟩ := Ba1.c2
      obtain ⟨ba2l, ba20, ba21⟩ := Ba2.c2
      have HC := Lib.hid (szTab_ok (.agg #[.int .i64 x0.C, .slice Aa0_1 na0_1 ca0_1]) x0 (1048576) (((w.alloc (.cells [.int .i64 x0.C, .slice Aa0_1 na0_1 ca0_1].toArray 24)).alloc (.cells [.int .i64 x1.C, .slice Aa1_1 na1_1 ca1_1].toArray 24)).alloc (.cells [.int .i64 x2.C, .slice Aa2_1 na2_1 ca2_1].toArray 24)) (spTab.rd_below RW0.out L) (by omega) (by omega))
      rw [szLeft_no (n := spTab.sz x0) (left := 1048576) (by omega)] at HC
      go_enter Try.func3, Try.ntmps3
      go_wp2_with (fail)
      refine HC.out.mono ?_; rintro e w1 ⟨rfl, hb⟩
      clear ba0l ba00 ba01 ba1l ba10 ba11 ba2l ba20 ba21
      clear HC
      replace Ba0 := Ba0.below hb
      replace Ba1 := Ba1.below hb
      replace Ba2 := Ba2.below hb
      replace L := bstep L L.size hb
      clear hb
      obtain ⟨ba0l, ba00, ba01⟩ := Ba0.c2
      obtain ⟨ba1l, ba10, ba11⟩ := Ba1.c2
      obtain ⟨ba2l, ba20, ba21⟩ := Ba2.c2
      go_wp2_with (fail)
      go_ret
      exact ⟨rfl, L⟩
  · have s3'' : 1048576 < (x3.length : Int) := by omega
    go_enter Try.func3, Try.ntmps3
    go_wp2_with (fail)
    go_ret
    exact ⟨rfl, L⟩
theorem fnExactIsSmithProof_walk (C0 : Int) (A0 : Option Addr) (c0 : Nat) (xss0 : List (List Int)) (C1 : Int) (A1 : Option Addr) (c1 : Nat) (xss1 : List (List Int)) (C2 : Int) (A2 : Option Addr) (c2 : Nat) (xss2 : List (List Int)) (A3 : Option Addr) (c3 : Nat) (xs3 : List Int) (w : World) (w0 : RdII w A0 xss0 ∧ (∀ j, j < xss0.length → (xss0.getD j []).length ≤ maxLen) ∧ xss0.length ≤ maxLen) (w1 : RdII w A1 xss1 ∧ (∀ j, j < xss1.length → (xss1.getD j []).length ≤ maxLen) ∧ xss1.length ≤ maxLen) (w2 : RdII w A2 xss2 ∧ (∀ j, j < xss2.length → (xss2.getD j []).length ≤ maxLen) ∧ xss2.length ≤ maxLen) (w3 : RdI w A3 xs3 ∧ xs3.length ≤ maxLen) :
    Calls Try.prog 3 #[.agg #[.int .i64 C0, .slice A0 xss0.length c0], .agg #[.int .i64 C1, .slice A1 xss1.length c1], .agg #[.int .i64 C2, .slice A2 xss2.length c2], .slice A3 xs3.length c3] w fun e w' => e = .returned (.bool true) ∧ Below w.heap.size w w' :=
  fnExactIsSmithProof_run (.agg #[.int .i64 C0, .slice A0 xss0.length c0]) ⟨C0, xss0⟩ (.agg #[.int .i64 C1, .slice A1 xss1.length c1]) ⟨C1, xss1⟩ (.agg #[.int .i64 C2, .slice A2 xss2.length c2]) ⟨C2, xss2⟩ (.slice A3 xs3.length c3) xs3 w (rdTab_of w0) (rdTab_of w1) (rdTab_of w2) ⟨A3, c3, rfl, w3.2, w3.1⟩
end Go.Proofs.Ytihdidbikeaafaa
