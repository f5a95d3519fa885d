/- The walk of the exact law of CountAbelianHoms. -/
import Derived.Test.YtihdidbikeaafaaL07I
import Derived.Deep.RegionHeld3
import Derived.Deep.DeepCutAuto
namespace Go.Proofs.Ytihdidbikeaafaa
open Go.RowKit
set_option linter.unusedVariables false
set_option linter.unusedSimpArgs false

set_option maxRecDepth 100000 in
set_option maxHeartbeats 4000000 in
theorem fnExactCountAbelianHoms_run (v0 : Value) (x0 : Ab) (v1 : Value) (x1 : Ab) (w : World) (h0 : spAb.rd w v0 x0) (h1 : spAb.rd w v1 x1) :
    Calls Try.prog 8 #[v0, v1] w fun e w' => e = .returned (.bool true) ∧ Below w.heap.size w w' := by
  obtain ⟨Aa0_0, na0_0, ca0_0, rfl, -⟩ := spAb_form h0
  obtain ⟨Aa1_0, na1_0, ca1_0, rfl, -⟩ := spAb_form h1
  have L : Below w.heap.size w ((w.alloc (.cells [.slice Aa0_0 na0_0 ca0_0, .int .i64 x0.K].toArray 35)).alloc (.cells [.slice Aa1_0 na1_0 ca1_0, .int .i64 x1.K].toArray 35)) := by go_grown
  have Ba0 : Blk ((w.alloc (.cells [.slice Aa0_0 na0_0 ca0_0, .int .i64 x0.K].toArray 35)).alloc (.cells [.slice Aa1_0 na1_0 ca1_0, .int .i64 x1.K].toArray 35)) (w.heap.size) [.slice Aa0_0 na0_0 ca0_0, .int .i64 x0.K] 35 := by have := (Blk.new w [.slice Aa0_0 na0_0 ca0_0, .int .i64 x0.K] 35).alloc (.cells [.slice Aa1_0 na1_0 ca1_0, .int .i64 x1.K].toArray 35); simpa only [World.size_alloc] using this
  have Ba1 : Blk ((w.alloc (.cells [.slice Aa0_0 na0_0 ca0_0, .int .i64 x0.K].toArray 35)).alloc (.cells [.slice Aa1_0 na1_0 ca1_0, .int .i64 x1.K].toArray 35)) (w.heap.size + 1) [.slice Aa1_0 na1_0 ca1_0, .int .i64 x1.K] 35 := by have := Blk.new (w.alloc (.cells [.slice Aa0_0 na0_0 ca0_0, .int .i64 x0.K].toArray 35)) [.slice Aa1_0 na1_0 ca1_0, .int .i64 x1.K] 35; simpa only [World.size_alloc] using this
  have RW0 := Lib.hid h0
  have RW1 := Lib.hid h1
  clear h0 h1
  by_cases s0 : (spAb.sz x0 : Int) ≤ 1048576
  · have s0' : spAb.sz x0 ≤ 1048576 := by omega
    by_cases s1 : (spAb.sz x1 : Int) ≤ 1048576 - (spAb.sz x0 : Int)
    · have s1' : spAb.sz x1 ≤ 1048576 := by omega
      obtain ⟨ba0l, ba00, ba01⟩ := Ba0.c2
      obtain ⟨ba1l, ba10, ba11⟩ := Ba1.c2
      have HC := Lib.hid (szAb_ok (.agg #[.slice Aa0_0 na0_0 ca0_0, .int .i64 x0.K]) x0 (1048576) ((w.alloc (.cells [.slice Aa0_0 na0_0 ca0_0, .int .i64 x0.K].toArray 35)).alloc (.cells [.slice Aa1_0 na1_0 ca1_0, .int .i64 x1.K].toArray 35)) (spAb.rd_below RW0.out L) (by omega) (by omega))
      rw [szLeft_yes (n := spAb.sz x0) (left := 1048576) (by omega)] at HC
      have g0 : 0 ≤ 1048576 - (spAb.sz x0 : Int) := by omega
      have g0' : 1048576 - (spAb.sz x0 : Int) ≤ 1048576 := by omega
      go_enter Try.func8, Try.ntmps8
      go_wp2_with (fail)
      refine HC.out.mono ?_; rintro e w1 ⟨rfl, hb⟩
      clear ba0l ba00 ba01 ba1l ba10 ba11
      clear HC
      replace Ba0 := Ba0.below hb
      replace Ba1 := Ba1.below hb
      replace L := bstep L L.size hb
      clear hb
      obtain ⟨ba0l, ba00, ba01⟩ := Ba0.c2
      obtain ⟨ba1l, ba10, ba11⟩ := Ba1.c2
      have HC := Lib.hid (szAb_ok (.agg #[.slice Aa1_0 na1_0 ca1_0, .int .i64 x1.K]) x1 (1048576 - (spAb.sz x0 : Int)) w1 (spAb.rd_below RW1.out L) (by omega) (by omega))
      rw [szLeft_yes (n := spAb.sz x1) (left := 1048576 - (spAb.sz x0 : Int)) (by omega)] at HC
      have g1 : 0 ≤ 1048576 - (spAb.sz x0 : Int) - (spAb.sz x1 : Int) := by omega
      have g1' : 1048576 - (spAb.sz x0 : Int) - (spAb.sz x1 : Int) ≤ 1048576 := by omega
      go_wp2_with (fail)
      refine HC.out.mono ?_; rintro e w2 ⟨rfl, hb⟩
      clear ba0l ba00 ba01 ba1l ba10 ba11
      clear HC
      replace Ba0 := Ba0.below hb
      replace Ba1 := Ba1.below hb
      replace L := bstep L L.size hb
      clear hb
      obtain ⟨ba0l, ba00, ba01⟩ := Ba0.c2
      obtain ⟨ba1l, ba10, ba11⟩ := Ba1.c2
      have hd : Below w2.heap.size w2 w2.drew := (Below.refl _ _).drew
      have hsz := L.size
      have hszd : w2.heap.size ≤ w2.drew.heap.size := hd.size
      go_wp2_with (fail)
      go_region_held3 (fun wx => wx.cell? ⟨(w.heap.size), 0, none⟩ = some (.slice Aa0_0 na0_0 ca0_0) ∧ wx.cell? ⟨(w.heap.size), 1, none⟩ = some (.int .i64 x0.K) ∧ wx.cell? ⟨(w.heap.size + 1), 0, none⟩ = some (.slice Aa1_0 na1_0 ca1_0) ∧ wx.cell? ⟨(w.heap.size + 1), 1, none⟩ = some (.int .i64 x1.K)) (first | go_keep | assumption) (first | (go_at_call 23; (with_reducible refine (toOk_c toAb_ok (.agg #[.slice Aa0_0 na0_0 ca0_0, .int .i64 x0.K]) x0 w2.drew (spAb.rd_drew (spAb.rd_below RW0.out L)) s0').mono ?_); rintro e w3 ⟨up0, Sp0, rfl, owp0, hSp0, hbp0⟩; have SMp0 : w3.cell? ⟨(w.heap.size), 0, none⟩ = some (.slice Aa0_0 na0_0 ca0_0) ∧ w3.cell? ⟨(w.heap.size), 1, none⟩ = some (.int .i64 x0.K) ∧ w3.cell? ⟨(w.heap.size + 1), 0, none⟩ = some (.slice Aa1_0 na1_0 ca1_0) ∧ w3.cell? ⟨(w.heap.size + 1), 1, none⟩ = some (.int .i64 x1.K) := ⟨(Blk.cell ((Ba0.drew).below hbp0) 0 (by simp)), (Blk.cell ((Ba0.drew).below hbp0) 1 (by simp)), (Blk.cell ((Ba1.drew).below hbp0) 0 (by simp)), (Blk.cell ((Ba1.drew).below hbp0) 1 (by simp))⟩) | (go_at_call 23; (with_reducible refine (toOk_c toAb_ok (.agg #[.slice Aa1_0 na1_0 ca1_0, .int .i64 x1.K]) x1 w3 (spAb.rd_below (spAb.rd_drew (spAb.rd_below RW1.out L)) hbp0) s1').mono ?_); rintro e w4 ⟨up1, Sp1, rfl, owp1, hSp1, hbp1⟩; have SMp1 : w4.cell? ⟨(w.heap.size), 0, none⟩ = some (.slice Aa0_0 na0_0 ca0_0) ∧ w4.cell? ⟨(w.heap.size), 1, none⟩ = some (.int .i64 x0.K) ∧ w4.cell? ⟨(w.heap.size + 1), 0, none⟩ = some (.slice Aa1_0 na1_0 ca1_0) ∧ w4.cell? ⟨(w.heap.size + 1), 1, none⟩ = some (.int .i64 x1.K) := ⟨(Blk.cell (((Ba0.drew).below hbp0).below hbp1) 0 (by simp)), (Blk.cell (((Ba0.drew).below hbp0).below hbp1) 1 (by simp)), (Blk.cell (((Ba1.drew).below hbp0).below hbp1) 0 (by simp)), (Blk.cell (((Ba1.drew).below hbp0).below hbp1) 1 (by simp))⟩) | (go_at_call 32; (with_reducible refine (sCountAbelianHoms_ok up0 x0 up1 x1 w4 (spAb.own_rd (spAb.own_below owp0 hbp1)) (spAb.own_rd owp1) s0' s1').mono ?_); rintro e w5 ⟨rfl, hbf⟩; have SMf : w5.cell? ⟨(w.heap.size), 0, none⟩ = some (.slice Aa0_0 na0_0 ca0_0) ∧ w5.cell? ⟨(w.heap.size), 1, none⟩ = some (.int .i64 x0.K) ∧ w5.cell? ⟨(w.heap.size + 1), 0, none⟩ = some (.slice Aa1_0 na1_0 ca1_0) ∧ w5.cell? ⟨(w.heap.size + 1), 1, none⟩ = some (.int .i64 x1.K) := ⟨(Blk.cell ((((Ba0.drew).below hbp0).below hbp1).below hbf) 0 (by simp)), (Blk.cell ((((Ba0.drew).below hbp0).below hbp1).below hbf) 1 (by simp)), (Blk.cell ((((Ba1.drew).below hbp0).below hbp1).below hbf) 0 (by simp)), (Blk.cell ((((Ba1.drew).below hbp0).below hbp1).below hbf) 1 (by simp))⟩))
      clear ba0l ba00 ba01 ba1l ba10 ba11
      replace Ba0 := Ba0.below hd
      replace Ba1 := Ba1.below hd
      replace L := bstep L L.size hd
      replace Ba0 := Ba0.below hbp0
      replace Ba1 := Ba1.below hbp0
      replace L := bstep L L.size hbp0
      replace Ba0 := Ba0.below hbp1
      replace Ba1 := Ba1.below hbp1
      replace L := bstep L L.size hbp1
      clear hd hsz hszd hbp0 hbp1 SMp0 owp0 hSp0 SMp1 owp1 hSp1 SMf
      replace Ba0 := Ba0.below hbf
      replace Ba1 := Ba1.below hbf
      replace L := bstep L L.size hbf
      clear hbf
      obtain ⟨ba0l, ba00, ba01⟩ := Ba0.c2
      obtain ⟨ba1l, ba10, ba11⟩ := Ba1.c2
      go_wp2_with (fail)
      refine (toAb_ok (.agg #[.slice Aa0_0 na0_0 ca0_0, .int .i64 x0.K]) x0 w5 (spAb.rd_below RW0.out L) s0').mono ?_; rintro e w6 ⟨uq0, Sq0, rfl, owq0, hSq0, hb⟩
      clear ba0l ba00 ba01 ba1l ba10 ba11
      have Na0_q0 : ¬ Sq0 (w.heap.size) := fun g => by have := hSq0 _ g; have := Ba0.lt; omega
      have Na1_q0 : ¬ Sq0 (w.heap.size + 1) := fun g => by have := hSq0 _ g; have := Ba1.lt; omega
      have Hq0 : Hid (∀ k, Sq0 k → w.heap.size ≤ k) := Lib.hid fun k g => by have := hSq0 k g; have := L.size; omega
      replace Ba0 := Ba0.below hb
      replace Ba1 := Ba1.below hb
      replace L := bstep L L.size hb
      clear hb hSq0
      obtain ⟨Aq0_0, nq0_0, cq0_0, rfl, -⟩ := spAb_form (spAb.own_rd owq0)
      have Oq0 := Lib.hid owq0
      clear owq0
      have Bq0 := Blk.new w6 [.slice Aq0_0 nq0_0 cq0_0, .int .i64 x0.K] 38
      have Nq0_q0 : ¬ Sq0 w6.heap.size := fun g => by have := spAb.own_lt Oq0.out g; omega
      have hbx : Below w6.heap.size w6 (w6.alloc (.cells [.slice Aq0_0 nq0_0 cq0_0, .int .i64 x0.K].toArray 38)) := (Below.refl _ _).alloc (Nat.le_refl _) _
      replace Oq0 := Lib.hid (spAb.own_below Oq0.out hbx)
      replace Ba0 := Ba0.below hbx
      replace Ba1 := Ba1.below hbx
      replace L := bstep L L.size hbx
      clear hbx
      obtain ⟨ba0l, ba00, ba01⟩ := Ba0.c2
      obtain ⟨ba1l, ba10, ba11⟩ := Ba1.c2
      obtain ⟨bq0l, bq00, bq01⟩ := Bq0.c2
      go_wp2_with (fail)
      refine (toAb_ok (.agg #[.slice Aa1_0 na1_0 ca1_0, .int .i64 x1.K]) x1 (w6.alloc (.cells [.slice Aq0_0 nq0_0 cq0_0, .int .i64 x0.K].toArray 38)) (spAb.rd_below RW1.out L) s1').mono ?_; rintro e w7 ⟨uq1, Sq1, rfl, owq1, hSq1, hb⟩
      clear ba0l ba00 ba01 ba1l ba10 ba11 bq0l bq00 bq01
      have Dq0_q1 : Hid (∀ k, Sq0 k → ¬ Sq1 k) := Lib.hid fun k g1 g2 => by have := spAb.own_lt Oq0.out g1; have := hSq1 k g2; omega
      have Na0_q1 : ¬ Sq1 (w.heap.size) := fun g => by have := hSq1 _ g; have := Ba0.lt; omega
      have Na1_q1 : ¬ Sq1 (w.heap.size + 1) := fun g => by have := hSq1 _ g; have := Ba1.lt; omega
      have Nq0_q1 : ¬ Sq1 w6.heap.size := fun g => by have := hSq1 _ g; have := Bq0.lt; omega
      have Hq1 : Hid (∀ k, Sq1 k → w.heap.size ≤ k) := Lib.hid fun k g => by have := hSq1 k g; have := L.size; omega
      replace Oq0 := Lib.hid (spAb.own_below Oq0.out hb)
      replace Ba0 := Ba0.below hb
      replace Ba1 := Ba1.below hb
      replace Bq0 := Bq0.below hb
      replace L := bstep L L.size hb
      clear hb hSq1
      obtain ⟨Aq1_0, nq1_0, cq1_0, rfl, -⟩ := spAb_form (spAb.own_rd owq1)
      have Oq1 := Lib.hid owq1
      clear owq1
      have Bq1 := Blk.new w7 [.slice Aq1_0 nq1_0 cq1_0, .int .i64 x1.K] 38
      have Nq1_q0 : ¬ Sq0 w7.heap.size := fun g => by have := spAb.own_lt Oq0.out g; omega
      have Nq1_q1 : ¬ Sq1 w7.heap.size := fun g => by have := spAb.own_lt Oq1.out g; omega
      have hbx : Below w7.heap.size w7 (w7.alloc (.cells [.slice Aq1_0 nq1_0 cq1_0, .int .i64 x1.K].toArray 38)) := (Below.refl _ _).alloc (Nat.le_refl _) _
      replace Oq0 := Lib.hid (spAb.own_below Oq0.out hbx)
      replace Oq1 := Lib.hid (spAb.own_below Oq1.out hbx)
      replace Ba0 := Ba0.below hbx
      replace Ba1 := Ba1.below hbx
      replace Bq0 := Bq0.below hbx
      replace L := bstep L L.size hbx
      clear hbx
      obtain ⟨ba0l, ba00, ba01⟩ := Ba0.c2
      obtain ⟨ba1l, ba10, ba11⟩ := Ba1.c2
      obtain ⟨bq0l, bq00, bq01⟩ := Bq0.c2
      obtain ⟨bq1l, bq10, bq11⟩ := Bq1.c2
      go_wp2_with (fail)
      refine (iCountAbelianHoms_ok (.agg #[.slice Aq0_0 nq0_0 cq0_0, .int .i64 x0.K]) x0 (.agg #[.slice Aq1_0 nq1_0 cq1_0, .int .i64 x1.K]) x1 (w7.alloc (.cells [.slice Aq1_0 nq1_0 cq1_0, .int .i64 x1.K].toArray 38)) (spAb.own_rd Oq0.out) (spAb.own_rd Oq1.out) s0' s1').mono ?_; rintro e w8 ⟨rfl, hb⟩
      clear ba0l ba00 ba01 ba1l ba10 ba11 bq0l bq00 bq01 bq1l bq10 bq11
      replace Oq0 := Lib.hid (spAb.own_below Oq0.out hb)
      replace Oq1 := Lib.hid (spAb.own_below Oq1.out hb)
      replace Ba0 := Ba0.below hb
      replace Ba1 := Ba1.below hb
      replace Bq0 := Bq0.below hb
      replace Bq1 := Bq1.below hb
      replace L := bstep L L.size hb
      clear hb
      obtain ⟨ba0l, ba00, ba01⟩ := Ba0.c2
      obtain ⟨ba1l, ba10, ba11⟩ := Ba1.c2
      obtain ⟨bq0l, bq00, bq01⟩ := Bq0.c2
      obtain ⟨bq1l, bq10, bq11⟩ := Bq1.c2
      have HT := Lib.hid (toAb_ok (.agg #[.slice Aa0_0 na0_0 ca0_0, .int .i64 x0.K]) x0 w8.drew (spAb.rd_drew (spAb.rd_below RW0.out L)) s0')
      go_wp2_with (fail)
      go_region_held3 (fun wx => wx.cell? ⟨w6.heap.size, 0, none⟩ = some (.slice Aq0_0 nq0_0 cq0_0) ∧ wx.cell? ⟨w6.heap.size, 1, none⟩ = some (.int .i64 x0.K) ∧ wx.cell? ⟨(w.heap.size), 0, none⟩ = some (.slice Aa0_0 na0_0 ca0_0) ∧ wx.cell? ⟨(w.heap.size), 1, none⟩ = some (.int .i64 x0.K)) (first | go_keep | assumption) (first | (go_at_call 23; refine HT.out.mono ?_; rintro e w9 ⟨ut0, St0, rfl, owt0, hSt0, hb⟩; have SM : w9.cell? ⟨w6.heap.size, 0, none⟩ = some (.slice Aq0_0 nq0_0 cq0_0) ∧ w9.cell? ⟨w6.heap.size, 1, none⟩ = some (.int .i64 x0.K) ∧ w9.cell? ⟨(w.heap.size), 0, none⟩ = some (.slice Aa0_0 na0_0 ca0_0) ∧ w9.cell? ⟨(w.heap.size), 1, none⟩ = some (.int .i64 x0.K) := ⟨(Blk.cell (Bq0.drew.below hb) 0 (by simp)), (Blk.cell (Bq0.drew.below hb) 1 (by simp)), (Blk.cell (Ba0.drew.below hb) 0 (by simp)), (Blk.cell (Ba0.drew.below hb) 1 (by simp))⟩) | (go_at_call 25; refine (eqAb_ok (.agg #[.slice Aq0_0 nq0_0 cq0_0, .int .i64 x0.K]) _ x0 _ (spAb.rd_below (spAb.rd_drew (spAb.own_rd Oq0.out)) hb) (spAb.own_rd owt0)).mono ?_; rintro e w10 ⟨rfl, hb2⟩; have SM2 : w10.cell? ⟨w6.heap.size, 0, none⟩ = some (.slice Aq0_0 nq0_0 cq0_0) ∧ w10.cell? ⟨w6.heap.size, 1, none⟩ = some (.int .i64 x0.K) ∧ w10.cell? ⟨(w.heap.size), 0, none⟩ = some (.slice Aa0_0 na0_0 ca0_0) ∧ w10.cell? ⟨(w.heap.size), 1, none⟩ = some (.int .i64 x0.K) := ⟨(Blk.cell ((Bq0.drew.below hb).below hb2) 0 (by simp)), (Blk.cell ((Bq0.drew.below hb).below hb2) 1 (by simp)), (Blk.cell ((Ba0.drew.below hb).below hb2) 0 (by simp)), (Blk.cell ((Ba0.drew.below hb).below hb2) 1 (by simp))⟩))
      clear ba0l ba00 ba01 ba1l ba10 ba11 bq0l bq00 bq01 bq1l bq10 bq11
      have hd : Below w8.heap.size w8 w8.drew := (Below.refl _ _).drew
      replace Oq0 := Lib.hid (spAb.own_below Oq0.out hd)
      replace Oq1 := Lib.hid (spAb.own_below Oq1.out hd)
      replace Ba0 := Ba0.below hd
      replace Ba1 := Ba1.below hd
      replace Bq0 := Bq0.below hd
      replace Bq1 := Bq1.below hd
      replace L := bstep L L.size hd
      replace Oq0 := Lib.hid (spAb.own_below Oq0.out hb)
      replace Oq1 := Lib.hid (spAb.own_below Oq1.out hb)
      replace Ba0 := Ba0.below hb
      replace Ba1 := Ba1.below hb
      replace Bq0 := Bq0.below hb
      replace Bq1 := Bq1.below hb
      replace L := bstep L L.size hb
      replace Oq0 := Lib.hid (spAb.own_below Oq0.out hb2)
      replace Oq1 := Lib.hid (spAb.own_below Oq1.out hb2)
      replace Ba0 := Ba0.below hb2
      replace Ba1 := Ba1.below hb2
      replace Bq0 := Bq0.below hb2
      replace Bq1 := Bq1.below hb2
      replace L := bstep L L.size hb2
      clear hd hb hb2 HT SM SM2 owt0 hSt0
      obtain ⟨ba0l, ba00, ba01⟩ := Ba0.c2
      obtain ⟨ba1l, ba10, ba11⟩ := Ba1.c2
      obtain ⟨bq0l, bq00, bq01⟩ := Bq0.c2
      obtain ⟨bq1l, bq10, bq11⟩ := Bq1.c2
      have HT := Lib.hid (toAb_ok (.agg #[.slice Aa1_0 na1_0 ca1_0, .int .i64 x1.K]) x1 w10.drew (spAb.rd_drew (spAb.rd_below RW1.out L)) s1')
      go_wp2_with (fail)
      go_region_held3 (fun wx => wx.cell? ⟨w7.heap.size, 0, none⟩ = some (.slice Aq1_0 nq1_0 cq1_0) ∧ wx.cell? ⟨w7.heap.size, 1, none⟩ = some (.int .i64 x1.K) ∧ wx.cell? ⟨(w.heap.size + 1), 0, none⟩ = some (.slice Aa1_0 na1_0 ca1_0) ∧ wx.cell? ⟨(w.heap.size + 1), 1, none⟩ = some (.int .i64 x1.K)) (first | go_keep | assumption) (first | (go_at_call 23; refine HT.out.mono ?_; rintro e w11 ⟨ut1, St1, rfl, owt1, hSt1, hb⟩; have SM : w11.cell? ⟨w7.heap.size, 0, none⟩ = some (.slice Aq1_0 nq1_0 cq1_0) ∧ w11.cell? ⟨w7.heap.size, 1, none⟩ = some (.int .i64 x1.K) ∧ w11.cell? ⟨(w.heap.size + 1), 0, none⟩ = some (.slice Aa1_0 na1_0 ca1_0) ∧ w11.cell? ⟨(w.heap.size + 1), 1, none⟩ = some (.int .i64 x1.K) := ⟨(Blk.cell (Bq1.drew.below hb) 0 (by simp)), (Blk.cell (Bq1.drew.below hb) 1 (by simp)), (Blk.cell (Ba1.drew.below hb) 0 (by simp)), (Blk.cell (Ba1.drew.below hb) 1 (by simp))⟩) | (go_at_call 25; refine (eqAb_ok (.agg #[.slice Aq1_0 nq1_0 cq1_0, .int .i64 x1.K]) _ x1 _ (spAb.rd_below (spAb.rd_drew (spAb.own_rd Oq1.out)) hb) (spAb.own_rd owt1)).mono ?_; rintro e w12 ⟨rfl, hb2⟩; have SM2 : w12.cell? ⟨w7.heap.size, 0, none⟩ = some (.slice Aq1_0 nq1_0 cq1_0) ∧ w12.cell? ⟨w7.heap.size, 1, none⟩ = some (.int .i64 x1.K) ∧ w12.cell? ⟨(w.heap.size + 1), 0, none⟩ = some (.slice Aa1_0 na1_0 ca1_0) ∧ w12.cell? ⟨(w.heap.size + 1), 1, none⟩ = some (.int .i64 x1.K) := ⟨(Blk.cell ((Bq1.drew.below hb).below hb2) 0 (by simp)), (Blk.cell ((Bq1.drew.below hb).below hb2) 1 (by simp)), (Blk.cell ((Ba1.drew.below hb).below hb2) 0 (by simp)), (Blk.cell ((Ba1.drew.below hb).below hb2) 1 (by simp))⟩))
      clear ba0l ba00 ba01 ba1l ba10 ba11 bq0l bq00 bq01 bq1l bq10 bq11
      have hd : Below w10.heap.size w10 w10.drew := (Below.refl _ _).drew
      replace Oq0 := Lib.hid (spAb.own_below Oq0.out hd)
      replace Oq1 := Lib.hid (spAb.own_below Oq1.out hd)
      replace Ba0 := Ba0.below hd
      replace Ba1 := Ba1.below hd
      replace Bq0 := Bq0.below hd
      replace Bq1 := Bq1.below hd
      replace L := bstep L L.size hd
      replace Oq0 := Lib.hid (spAb.own_below Oq0.out hb)
      replace Oq1 := Lib.hid (spAb.own_below Oq1.out hb)
      replace Ba0 := Ba0.below hb
      replace Ba1 := Ba1.below hb
      replace Bq0 := Bq0.below hb
      replace Bq1 := Bq1.below hb
      replace L := bstep L L.size hb
      replace Oq0 := Lib.hid (spAb.own_below Oq0.out hb2)
      replace Oq1 := Lib.hid (spAb.own_below Oq1.out hb2)
      replace Ba0 := Ba0.below hb2
      replace Ba1 := Ba1.below hb2
      replace Bq0 := Bq0.below hb2
      replace Bq1 := Bq1.below hb2
      replace L := bstep L L.size hb2
      clear hd hb hb2 HT SM SM2 owt1 hSt1
      obtain ⟨ba0l, ba00, ba01⟩ := Ba0.c2
      obtain ⟨ba1l, ba10, ba11⟩ := Ba1.c2
      obtain ⟨bq0l, bq00, bq01⟩ := Bq0.c2
      obtain ⟨bq1l, bq10, bq11⟩ := Bq1.c2
      go_wp2_with (fail)
      go_ret
      exact ⟨rfl, L⟩
    · obtain ⟨ba0l, ba00, ba01⟩ := Ba0.c2
      obtain ⟨ba1l, ba10, ba11⟩ := Ba1.c2
      have HC := Lib.hid (szAb_ok (.agg #[.slice Aa0_0 na0_0 ca0_0, .int .i64 x0.K]) x0 (1048576) ((w.alloc (.cells [.slice Aa0_0 na0_0 ca0_0, .int .i64 x0.K].toArray 35)).alloc (.cells [.slice Aa1_0 na1_0 ca1_0, .int .i64 x1.K].toArray 35)) (spAb.rd_below RW0.out L) (by omega) (by omega))
      rw [szLeft_yes (n := spAb.sz x0) (left := 1048576) (by omega)] at HC
      have g0 : 0 ≤ 1048576 - (spAb.sz x0 : Int) := by omega
      have g0' : 1048576 - (spAb.sz x0 : Int) ≤ 1048576 := by omega
      go_enter Try.func8, Try.ntmps8
      go_wp2_with (fail)
      refine HC.out.mono ?_; rintro e w1 ⟨rfl, hb⟩
      clear ba0l ba00 ba01 ba1l ba10 ba11
      clear HC
      replace Ba0 := Ba0.below hb
      replace Ba1 := Ba1.below hb
      replace L := bstep L L.size hb
      clear hb
      obtain ⟨ba0l, ba00, ba01⟩ := Ba0.c2
      obtain ⟨ba1l, ba10, ba11⟩ := Ba1.c2
      have HC := Lib.hid (szAb_ok (.agg #[.slice Aa1_0 na1_0 ca1_0, .int .i64 x1.K]) x1 (1048576 - (spAb.sz x0 : Int)) w1 (spAb.rd_below RW1.out L) (by omega) (by omega))
      rw [szLeft_no (n := spAb.sz x1) (left := 1048576 - (spAb.sz x0 : Int)) (by omega)] at HC
      go_wp2_with (fail)
      refine HC.out.mono ?_; rintro e w2 ⟨rfl, hb⟩
      clear ba0l ba00 ba01 ba1l ba10 ba11
      clear HC
      replace Ba0 := Ba0.below hb
      replace Ba1 := Ba1.below hb
      replace L := bstep L L.size hb
      clear hb
      obtain ⟨ba0l, ba00, ba01⟩ := Ba0.c2
      obtain ⟨ba1l, ba10, ba11⟩ := Ba1.c2
      go_wp2_with (fail)
      go_ret
      exact ⟨rfl, L⟩
  · obtain ⟨ba0l, ba00, ba01⟩ := Ba0.c2
    obtain ⟨ba1l, ba10, ba11⟩ := Ba1.c2
    have HC := Lib.hid (szAb_ok (.agg #[.slice Aa0_0 na0_0 ca0_0, .int .i64 x0.K]) x0 (1048576) ((w.alloc (.cells [.slice Aa0_0 na0_0 ca0_0, .int .i64 x0.K].toArray 35)).alloc (.cells [.slice Aa1_0 na1_0 ca1_0, .int .i64 x1.K].toArray 35)) (spAb.rd_below RW0.out L) (by omega) (by omega))
    rw [szLeft_no (n := spAb.sz x0) (left := 1048576) (by omega)] at HC
    go_enter Try.func8, Try.ntmps8
    go_wp2_with (fail)
    refine HC.out.mono ?_; rintro e w1 ⟨rfl, hb⟩
    clear ba0l ba00 ba01 ba1l ba10 ba11
    clear HC
    replace Ba0 := Ba0.below hb
    replace Ba1 := Ba1.below hb
    replace L := bstep L L.size hb
    clear hb
    obtain ⟨ba0l, ba00, ba01⟩ := Ba0.c2
    obtain ⟨ba1l, ba10, ba11⟩ := Ba1.c2
    go_wp2_with (fail)
    go_ret
    exact ⟨rfl, L⟩
theorem fnExactCountAbelianHoms_walk (A0 : Option Addr) (c0 : Nat) (xs0 : List Int) (K0 : Int) (A1 : Option Addr) (c1 : Nat) (xs1 : List Int) (K1 : Int) (w : World) (w0 : RdI w A0 xs0 ∧ xs0.length ≤ maxLen) (w1 : RdI w A1 xs1 ∧ xs1.length ≤ maxLen) :
    Calls Try.prog 8 #[.agg #[.slice A0 xs0.length c0, .int .i64 K0], .agg #[.slice A1 xs1.length c1, .int .i64 K1]] w fun e w' => e = .returned (.bool true) ∧ Below w.heap.size w w' :=
  fnExactCountAbelianHoms_run (.agg #[.slice A0 xs0.length c0, .int .i64 K0]) ⟨xs0, K0⟩ (.agg #[.slice A1 xs1.length c1, .int .i64 K1]) ⟨xs1, K1⟩ w (rdAb_of w0) (rdAb_of w1)
end Go.Proofs.Ytihdidbikeaafaa
