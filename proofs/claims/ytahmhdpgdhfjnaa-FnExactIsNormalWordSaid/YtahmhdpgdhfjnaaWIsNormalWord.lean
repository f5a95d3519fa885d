/- The walk of the exact law of IsNormalWord. -/
import Derived.Test.YtahmhdpgdhfjnaaL13L
import Derived.Test.YtahmhdpgdhfjnaaOpP
import Derived.Deep.RegionHeld3
import Derived.Deep.DeepCutAuto
namespace Go.Proofs.Ytahmhdpgdhfjnaa
open Go.RowKit
set_option linter.unusedVariables false
set_option linter.unusedSimpArgs false

set_option maxRecDepth 100000 in
set_option maxHeartbeats 4000000 in
theorem fnExactIsNormalWord_run (v0 : Value) (x0 : Pres) (v1 : Value) (x1 : List Int) (w : World) (h0 : spPres.rd w v0 x0) (h1 : spI.rd w v1 x1) :
    Calls Try.prog 8 #[v0, v1] w fun e w' => e = .returned (.bool true) ∧ Below w.heap.size w w' := by
  have h1b := h1
  obtain ⟨A1, c1, rfl, m1, -⟩ := h1b
  have m1' := m1
  unfold maxLen at m1'
  obtain ⟨Aa0_0, na0_0, ca0_0, Aa0_1, na0_1, ca0_1, Aa0_2, na0_2, ca0_2, rfl, -, -, -⟩ := spPres_form h0
  have L : Below w.heap.size w (w.alloc (.cells [.slice Aa0_0 na0_0 ca0_0, .slice Aa0_1 na0_1 ca0_1, .slice Aa0_2 na0_2 ca0_2].toArray 47)) := by go_grown
  have Ba0 : Blk (w.alloc (.cells [.slice Aa0_0 na0_0 ca0_0, .slice Aa0_1 na0_1 ca0_1, .slice Aa0_2 na0_2 ca0_2].toArray 47)) (w.heap.size) [.slice Aa0_0 na0_0 ca0_0, .slice Aa0_1 na0_1 ca0_1, .slice Aa0_2 na0_2 ca0_2] 47 := by have := Blk.new w [.slice Aa0_0 na0_0 ca0_0, .slice Aa0_1 na0_1 ca0_1, .slice Aa0_2 na0_2 ca0_2] 47; simpa only [World.size_alloc] using this
  have RW0 := Lib.hid h0
  have RW1 := Lib.hid h1
  clear h0 h1
  by_cases s1 : (x1.length : Int) ≤ 1048576
  · have s1' : spI.sz x1 ≤ 1048576 := by show x1.length ≤ 1048576; omega
    by_cases s0 : (spPres.sz x0 : Int) ≤ 1048576
    · have s0' : spPres.sz x0 ≤ 1048576 := by omega
      obtain ⟨ba0l, ba00, ba01, ba02⟩ := Ba0.c3
      have HC := Lib.hid (szPres_ok (.agg #[.slice Aa0_0 na0_0 ca0_0, .slice Aa0_1 na0_1 ca0_1, .slice Aa0_2 na0_2 ca0_2]) x0 (1048576) (w.alloc (.cells [.slice Aa0_0 na0_0 ca0_0, .slice Aa0_1 na0_1 ca0_1, .slice Aa0_2 na0_2 ca0_2].toArray 47)) (spPres.rd_below RW0.out L) (by omega) (by omega))
      rw [szLeft_yes (n := spPres.sz x0) (left := 1048576) (by omega)] at HC
      have g0 : 0 ≤ 1048576 - (spPres.sz x0 : Int) := by omega
      have g0' : 1048576 - (spPres.sz x0 : Int) ≤ 1048576 := by omega
      go_enter Try.func8, Try.ntmps8
      go_wp2_with (fail)
      refine HC.out.mono ?_; rintro e w1 ⟨rfl, hb⟩
      clear ba0l ba00 ba01 ba02
      clear HC
      replace Ba0 := Ba0.below hb
      replace L := bstep L L.size hb
      clear hb
      obtain ⟨ba0l, ba00, ba01, ba02⟩ := Ba0.c3
      go_wp2_with (fail)
      refine (toPres_ok (.agg #[.slice Aa0_0 na0_0 ca0_0, .slice Aa0_1 na0_1 ca0_1, .slice Aa0_2 na0_2 ca0_2]) x0 w1 (spPres.rd_below RW0.out L) s0').mono ?_; rintro e w2 ⟨up0, Sp0, rfl, owp0, hSp0, hb⟩
      clear ba0l ba00 ba01 ba02
      have Na0_p0 : ¬ Sp0 (w.heap.size) := fun g => by have := hSp0 _ g; have := Ba0.lt; omega
      have Hp0 : Hid (∀ k, Sp0 k → w.heap.size ≤ k) := Lib.hid fun k g => by have := hSp0 k g; have := L.size; omega
      replace Ba0 := Ba0.below hb
      replace L := bstep L L.size hb
      clear hb hSp0
      obtain ⟨Ap0_0, np0_0, cp0_0, Ap0_1, np0_1, cp0_1, Ap0_2, np0_2, cp0_2, rfl, -, -, -⟩ := spPres_form (spPres.own_rd owp0)
      have Op0 := Lib.hid owp0
      clear owp0
      obtain ⟨ba0l, ba00, ba01, ba02⟩ := Ba0.c3
      go_wp2_with (fail)
      refine (toI_ok (.slice A1 x1.length c1) x1 w2 (spI.rd_below RW1.out L) s1').mono ?_; rintro e w3 ⟨up1, Sp1, rfl, owp1, hSp1, hb⟩
      clear ba0l ba00 ba01 ba02
      have Dp0_p1 : Hid (∀ k, Sp0 k → ¬ Sp1 k) := Lib.hid fun k g1 g2 => by have := spPres.own_lt Op0.out g1; have := hSp1 k g2; omega
      have Na0_p1 : ¬ Sp1 (w.heap.size) := fun g => by have := hSp1 _ g; have := Ba0.lt; omega
      have Hp1 : Hid (∀ k, Sp1 k → w.heap.size ≤ k) := Lib.hid fun k g => by have := hSp1 k g; have := L.size; omega
      replace Op0 := Lib.hid (spPres.own_below Op0.out hb)
      replace Ba0 := Ba0.below hb
      replace L := bstep L L.size hb
      clear hb hSp1
      have Op1 := Lib.hid owp1
      clear owp1
      obtain ⟨ba0l, ba00, ba01, ba02⟩ := Ba0.c3
      go_wp2_with (fail)
      refine (sIsNormalWord_ok (.agg #[.slice Ap0_0 np0_0 cp0_0, .slice Ap0_1 np0_1 cp0_1, .slice Ap0_2 np0_2 cp0_2]) x0 up1 x1 w3 (spPres.own_rd Op0.out) (spI.own_rd Op1.out) s0' s1').mono ?_; rintro e w4 ⟨rfl, hb⟩
      clear ba0l ba00 ba01 ba02
      replace Op0 := Lib.hid (spPres.own_below Op0.out hb)
      replace Op1 := Lib.hid (spI.own_below Op1.out hb)
      replace Ba0 := Ba0.below hb
      replace L := bstep L L.size hb
      clear hb
      obtain ⟨ba0l, ba00, ba01, ba02⟩ := Ba0.c3
      go_wp2_with (fail)
      refine (toPres_ok (.agg #[.slice Aa0_0 na0_0 ca0_0, .slice Aa0_1 na0_1 ca0_1, .slice Aa0_2 na0_2 ca0_2]) x0 w4 (spPres.rd_below RW0.out L) s0').mono ?_; rintro e w5 ⟨uq0, Sq0, rfl, owq0, hSq0, hb⟩
      clear ba0l ba00 ba01 ba02
      have Na0_q0 : ¬ Sq0 (w.heap.size) := fun g => by have := hSq0 _ g; have := Ba0.lt; omega
      have Hq0 : Hid (∀ k, Sq0 k → w.heap.size ≤ k) := Lib.hid fun k g => by have := hSq0 k g; have := L.size; omega
      replace Ba0 := Ba0.below hb
      replace L := bstep L L.size hb
      clear hb hSq0
      obtain ⟨Aq0_0, nq0_0, cq0_0, Aq0_1, nq0_1, cq0_1, Aq0_2, nq0_2, cq0_2, rfl, -, -, -⟩ := spPres_form (spPres.own_rd owq0)
      have Oq0 := Lib.hid owq0
      clear owq0
      have Bq0 := Blk.new w5 [.slice Aq0_0 nq0_0 cq0_0, .slice Aq0_1 nq0_1 cq0_1, .slice Aq0_2 nq0_2 cq0_2] 28
      have Nq0_q0 : ¬ Sq0 w5.heap.size := fun g => by have := spPres.own_lt Oq0.out g; omega
      have hbx : Below w5.heap.size w5 (w5.alloc (.cells [.slice Aq0_0 nq0_0 cq0_0, .slice Aq0_1 nq0_1 cq0_1, .slice Aq0_2 nq0_2 cq0_2].toArray 28)) := (Below.refl _ _).alloc (Nat.le_refl _) _
      replace Oq0 := Lib.hid (spPres.own_below Oq0.out hbx)
      replace Ba0 := Ba0.below hbx
      replace L := bstep L L.size hbx
      clear hbx
      obtain ⟨ba0l, ba00, ba01, ba02⟩ := Ba0.c3
      obtain ⟨bq0l, bq00, bq01, bq02⟩ := Bq0.c3
      go_wp2_with (fail)
      refine (toI_ok (.slice A1 x1.length c1) x1 (w5.alloc (.cells [.slice Aq0_0 nq0_0 cq0_0, .slice Aq0_1 nq0_1 cq0_1, .slice Aq0_2 nq0_2 cq0_2].toArray 28)) (spI.rd_below RW1.out L) s1').mono ?_; rintro e w6 ⟨uq1, Sq1, rfl, owq1, hSq1, hb⟩
      clear ba0l ba00 ba01 ba02 bq0l bq00 bq01 bq02
      have Dq0_q1 : Hid (∀ k, Sq0 k → ¬ Sq1 k) := Lib.hid fun k g1 g2 => by have := spPres.own_lt Oq0.out g1; have := hSq1 k g2; omega
      have Na0_q1 : ¬ Sq1 (w.heap.size) := fun g => by have := hSq1 _ g; have := Ba0.lt; omega
      have Nq0_q1 : ¬ Sq1 w5.heap.size := fun g => by have := hSq1 _ g; have := Bq0.lt; omega
      have Hq1 : Hid (∀ k, Sq1 k → w.heap.size ≤ k) := Lib.hid fun k g => by have := hSq1 k g; have := L.size; omega
      replace Oq0 := Lib.hid (spPres.own_below Oq0.out hb)
      replace Ba0 := Ba0.below hb
      replace Bq0 := Bq0.below hb
      replace L := bstep L L.size hb
      clear hb hSq1
      have Oq1 := Lib.hid owq1
      clear owq1
      obtain ⟨ba0l, ba00, ba01, ba02⟩ := Ba0.c3
      obtain ⟨bq0l, bq00, bq01, bq02⟩ := Bq0.c3
      go_wp2_with (fail)
      refine (iIsNormalWord_ok (.agg #[.slice Aq0_0 nq0_0 cq0_0, .slice Aq0_1 nq0_1 cq0_1, .slice Aq0_2 nq0_2 cq0_2]) x0 uq1 x1 w6 (presC_of Oq0.out) (spI.own_rd Oq1.out) s0' s1').mono ?_; rintro e w7 ⟨rfl, hb⟩
      clear ba0l ba00 ba01 ba02 bq0l bq00 bq01 bq02
      replace Oq0 := Lib.hid (spPres.own_below Oq0.out hb)
      replace Oq1 := Lib.hid (spI.own_below Oq1.out hb)
      replace Ba0 := Ba0.below hb
      replace Bq0 := Bq0.below hb
      replace L := bstep L L.size hb
      clear hb
      obtain ⟨ba0l, ba00, ba01, ba02⟩ := Ba0.c3
      obtain ⟨bq0l, bq00, bq01, bq02⟩ := Bq0.c3
      have HT := Lib.hid (toPres_ok (.agg #[.slice Aa0_0 na0_0 ca0_0, .slice Aa0_1 na0_1 ca0_1, .slice Aa0_2 na0_2 ca0_2]) x0 w7.drew (spPres.rd_drew (spPres.rd_below RW0.out L)) s0')
      go_wp2_with (fail)
      go_region_held3 (fun wx => wx.cell? ⟨w5.heap.size, 0, none⟩ = some (.slice Aq0_0 nq0_0 cq0_0) ∧ wx.cell? ⟨w5.heap.size, 1, none⟩ = some (.slice Aq0_1 nq0_1 cq0_1) ∧ wx.cell? ⟨w5.heap.size, 2, none⟩ = some (.slice Aq0_2 nq0_2 cq0_2) ∧ wx.cell? ⟨(w.heap.size), 0, none⟩ = some (.slice Aa0_0 na0_0 ca0_0) ∧ wx.cell? ⟨(w.heap.size), 1, none⟩ = some (.slice Aa0_1 na0_1 ca0_1) ∧ wx.cell? ⟨(w.heap.size), 2, none⟩ = some (.slice Aa0_2 na0_2 ca0_2)) (first | go_keep | assumption) (first | (go_at_call 29; refine HT.out.mono ?_; rintro e w8 ⟨ut0, St0, rfl, owt0, hSt0, hb⟩; have SM : w8.cell? ⟨w5.heap.size, 0, none⟩ = some (.slice Aq0_0 nq0_0 cq0_0) ∧ w8.cell? ⟨w5.heap.size, 1, none⟩ = some (.slice Aq0_1 nq0_1 cq0_1) ∧ w8.cell? ⟨w5.heap.size, 2, none⟩ = some (.slice Aq0_2 nq0_2 cq0_2) ∧ w8.cell? ⟨(w.heap.size), 0, none⟩ = some (.slice Aa0_0 na0_0 ca0_0) ∧ w8.cell? ⟨(w.heap.size), 1, none⟩ = some (.slice Aa0_1 na0_1 ca0_1) ∧ w8.cell? ⟨(w.heap.size), 2, none⟩ = some (.slice Aa0_2 na0_2 ca0_2) := ⟨(Blk.cell (Bq0.drew.below hb) 0 (by simp)), (Blk.cell (Bq0.drew.below hb) 1 (by simp)), (Blk.cell (Bq0.drew.below hb) 2 (by simp)), (Blk.cell (Ba0.drew.below hb) 0 (by simp)), (Blk.cell (Ba0.drew.below hb) 1 (by simp)), (Blk.cell (Ba0.drew.below hb) 2 (by simp))⟩) | (go_at_call 30; refine (eqPres_ok (.agg #[.slice Aq0_0 nq0_0 cq0_0, .slice Aq0_1 nq0_1 cq0_1, .slice Aq0_2 nq0_2 cq0_2]) _ x0 _ (spPres.rd_below (spPres.rd_drew (spPres.own_rd Oq0.out)) hb) (spPres.own_rd owt0)).mono ?_; rintro e w9 ⟨rfl, hb2⟩; have SM2 : w9.cell? ⟨w5.heap.size, 0, none⟩ = some (.slice Aq0_0 nq0_0 cq0_0) ∧ w9.cell? ⟨w5.heap.size, 1, none⟩ = some (.slice Aq0_1 nq0_1 cq0_1) ∧ w9.cell? ⟨w5.heap.size, 2, none⟩ = some (.slice Aq0_2 nq0_2 cq0_2) ∧ w9.cell? ⟨(w.heap.size), 0, none⟩ = some (.slice Aa0_0 na0_0 ca0_0) ∧ w9.cell? ⟨(w.heap.size), 1, none⟩ = some (.slice Aa0_1 na0_1 ca0_1) ∧ w9.cell? ⟨(w.heap.size), 2, none⟩ = some (.slice Aa0_2 na0_2 ca0_2) := ⟨(Blk.cell ((Bq0.drew.below hb).below hb2) 0 (by simp)), (Blk.cell ((Bq0.drew.below hb).below hb2) 1 (by simp)), (Blk.cell ((Bq0.drew.below hb).below hb2) 2 (by simp)), (Blk.cell ((Ba0.drew.below hb).below hb2) 0 (by simp)), (Blk.cell ((Ba0.drew.below hb).below hb2) 1 (by simp)), (Blk.cell ((Ba0.drew.below hb).below hb2) 2 (by simp))⟩))
      clear ba0l ba00 ba01 ba02 bq0l bq00 bq01 bq02
      have hd : Below w7.heap.size w7 w7.drew := (Below.refl _ _).drew
      replace Oq0 := Lib.hid (spPres.own_below Oq0.out hd)
      replace Oq1 := Lib.hid (spI.own_below Oq1.out hd)
      replace Ba0 := Ba0.below hd
      replace Bq0 := Bq0.below hd
      replace L := bstep L L.size hd
      replace Oq0 := Lib.hid (spPres.own_below Oq0.out hb)
      replace Oq1 := Lib.hid (spI.own_below Oq1.out hb)
      replace Ba0 := Ba0.below hb
      replace Bq0 := Bq0.below hb
      replace L := bstep L L.size hb
      replace Oq0 := Lib.hid (spPres.own_below Oq0.out hb2)
      replace Oq1 := Lib.hid (spI.own_below Oq1.out hb2)
      replace Ba0 := Ba0.below hb2
      replace Bq0 := Bq0.below hb2
      replace L := bstep L L.size hb2
      clear hd hb hb2 HT SM SM2 owt0 hSt0
      obtain ⟨ba0l, ba00, ba01, ba02⟩ := Ba0.c3
      obtain ⟨bq0l, bq00, bq01, bq02⟩ := Bq0.c3
      go_wp2_with (fail)
      refine (toI_ok (.slice A1 x1.length c1) x1 w9 (spI.rd_below RW1.out L) s1').mono ?_; rintro e w10 ⟨ut1, St1, rfl, owt1, hSt1, hb⟩
      clear ba0l ba00 ba01 ba02 bq0l bq00 bq01 bq02
      have Dq0_t1 : Hid (∀ k, Sq0 k → ¬ St1 k) := Lib.hid fun k g1 g2 => by have := spPres.own_lt Oq0.out g1; have := hSt1 k g2; omega
      have Dq1_t1 : Hid (∀ k, Sq1 k → ¬ St1 k) := Lib.hid fun k g1 g2 => by have := spI.own_lt Oq1.out g1; have := hSt1 k g2; omega
      have Na0_t1 : ¬ St1 (w.heap.size) := fun g => by have := hSt1 _ g; have := Ba0.lt; omega
      have Nq0_t1 : ¬ St1 w5.heap.size := fun g => by have := hSt1 _ g; have := Bq0.lt; omega
      have Ht1 : Hid (∀ k, St1 k → w.heap.size ≤ k) := Lib.hid fun k g => by have := hSt1 k g; have := L.size; omega
      replace Oq0 := Lib.hid (spPres.own_below Oq0.out hb)
      replace Oq1 := Lib.hid (spI.own_below Oq1.out hb)
      replace Ba0 := Ba0.below hb
      replace Bq0 := Bq0.below hb
      replace L := bstep L L.size hb
      clear hb hSt1
      have Ot1 := Lib.hid owt1
      clear owt1
      obtain ⟨ba0l, ba00, ba01, ba02⟩ := Ba0.c3
      obtain ⟨bq0l, bq00, bq01, bq02⟩ := Bq0.c3
      go_wp2_with (fail)
      refine (eqI_ok uq1 ut1 x1 w10 (spI.own_rd Oq1.out) (spI.own_rd Ot1.out)).mono ?_; rintro e w11 ⟨rfl, hb⟩
      clear ba0l ba00 ba01 ba02 bq0l bq00 bq01 bq02
      replace Oq0 := Lib.hid (spPres.own_below Oq0.out hb)
      replace Oq1 := Lib.hid (spI.own_below Oq1.out hb)
      replace Ot1 := Lib.hid (spI.own_below Ot1.out hb)
      replace Ba0 := Ba0.below hb
      replace Bq0 := Bq0.below hb
      replace L := bstep L L.size hb
      clear hb
      obtain ⟨ba0l, ba00, ba01, ba02⟩ := Ba0.c3
      obtain ⟨bq0l, bq00, bq01, bq02⟩ := Bq0.c3
      go_wp2_with (fail)
      go_ret
      exact ⟨rfl, L⟩
    · obtain ⟨ba0l, ba00, ba01, ba02⟩ := Ba0.c3
      have HC := Lib.hid (szPres_ok (.agg #[.slice Aa0_0 na0_0 ca0_0, .slice Aa0_1 na0_1 ca0_1, .slice Aa0_2 na0_2 ca0_2]) x0 (1048576) (w.alloc (.cells [.slice Aa0_0 na0_0 ca0_0, .slice Aa0_1 na0_1 ca0_1, .slice Aa0_2 na0_2 ca0_2].toArray 47)) (spPres.rd_below RW0.out L) (by omega) (by omega))
      rw [szLeft_no (n := spPres.sz x0) (left := 1048576) (by omega)] at HC
      go_enter Try.func8, Try.ntmps8
      go_wp2_with (fail)
      refine HC.out.mono ?_; rintro e w1 ⟨rfl, hb⟩
      clear ba0l ba00 ba01 ba02
      clear HC
      replace Ba0 := Ba0.below hb
      replace L := bstep L L.size hb
      clear hb
      obtain ⟨ba0l, ba00, ba01, ba02⟩ := Ba0.c3
      go_wp2_with (fail)
      go_ret
      exact ⟨rfl, L⟩
  · have s1'' : 1048576 < (x1.length : Int) := by omega
    go_enter Try.func8, Try.ntmps8
    go_wp2_with (fail)
    go_ret
    exact ⟨rfl, L⟩
theorem fnExactIsNormalWord_walk (v0 : Value) (x0 : Pres) (A1 : Option Addr) (c1 : Nat) (xs1 : List Int) (w : World) (w0 : spPres.rd w v0 x0) (w1 : RdI w A1 xs1 ∧ xs1.length ≤ maxLen) :
    Calls Try.prog 8 #[v0, .slice A1 xs1.length c1] w fun e w' => e = .returned (.bool true) ∧ Below w.heap.size w w' :=
  fnExactIsNormalWord_run v0 x0 (.slice A1 xs1.length c1) xs1 w w0 ⟨A1, c1, rfl, w1.2, w1.1⟩
end Go.Proofs.Ytahmhdpgdhfjnaa
