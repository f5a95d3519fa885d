/- The walk of the exact law of CountPrimeSubgroups. -/
import Derived.Test.YtihdidbikeaafaaL07K
import Derived.Deep.RegionHeld3
import Derived.Deep.DeepCutAuto
namespace Go.Proofs.Ytihdidbikeaafaa
open Go.RowKit
set_option linter.unusedVariables false
set_option linter.unusedSimpArgs false

set_option maxRecDepth 100000 in
set_option maxHeartbeats 4000000 in
theorem fnExactCountPrimeSubgroups_run (v0 : Value) (x0 : Ab) (x1 : Int) (w : World) (h0 : spAb.rd w v0 x0) :
    Calls Try.prog 10 #[v0, .int .i64 x1] w fun e w' => e = .returned (.bool true) ∧ Below w.heap.size w w' := by
  obtain ⟨Aa0_0, na0_0, ca0_0, rfl, -⟩ := spAb_form h0
  have L : Below w.heap.size w (w.alloc (.cells [.slice Aa0_0 na0_0 ca0_0, .int .i64 x0.K].toArray 35)) := by go_grown
  have Ba0 : Blk (w.alloc (.cells [.slice Aa0_0 na0_0 ca0_0, .int .i64 x0.K].toArray 35)) (w.heap.size) [.slice Aa0_0 na0_0 ca0_0, .int .i64 x0.K] 35 := by have := Blk.new w [.slice Aa0_0 na0_0 ca0_0, .int .i64 x0.K] 35; simpa only [World.size_alloc] using this
  have RW0 := Lib.hid h0
  clear h0
  by_cases s0 : (spAb.sz x0 : Int) ≤ 1048576
  · have s0' : spAb.sz x0 ≤ 1048576 := by omega
    obtain ⟨ba0l, ba00, ba01⟩ := Ba0.c2
    have HC := Lib.hid (szAb_ok (.agg #[.slice Aa0_0 na0_0 ca0_0, .int .i64 x0.K]) x0 (1048576) (w.alloc (.cells [.slice Aa0_0 na0_0 ca0_0, .int .i64 x0.K].toArray 35)) (spAb.rd_below RW0.out L) (by omega) (by omega))
    rw [szLeft_yes (n := spAb.sz x0) (left := 1048576) (by omega)] at HC
    have g0 : 0 ≤ 1048576 - (spAb.sz x0 : Int) := by omega
    have g0' : 1048576 - (spAb.sz x0 : Int) ≤ 1048576 := by omega
    go_enter Try.func10, Try.ntmps10
    go_wp2_with (fail)
    refine HC.out.mono ?_; rintro e w1 ⟨rfl, hb⟩
    clear ba0l ba00 ba01
    clear HC
    replace Ba0 := Ba0.below hb
    replace L := bstep L L.size hb
    clear hb
    obtain ⟨ba0l, ba00, ba01⟩ := Ba0.c2
    go_wp2_with (fail)
    refine (toAb_ok (.agg #[.slice Aa0_0 na0_0 ca0_0, .int .i64 x0.K]) x0 w1 (spAb.rd_below RW0.out L) s0').mono ?_; rintro e w2 ⟨up0, Sp0, rfl, owp0, hSp0, hb⟩
    clear ba0l ba00 ba01
    have Na0_p0 : ¬ Sp0 (w.heap.size) := fun g => by have := hSp0 _ g; have := Ba0.lt; omega
    have Hp0 : Hid (∀ k, Sp0 k → w.heap.size ≤ k) := Lib.hid fun k g => by have := hSp0 k g; have := L.size; omega
    replace Ba0 := Ba0.below hb
    replace L := bstep L L.size hb
    clear hb hSp0
    obtain ⟨Ap0_0, np0_0, cp0_0, rfl, -⟩ := spAb_form (spAb.own_rd owp0)
    have Op0 := Lib.hid owp0
    clear owp0
    obtain ⟨ba0l, ba00, ba01⟩ := Ba0.c2
    go_wp2_with (fail)
    refine (sCountPrimeSubgroups_ok (.agg #[.slice Ap0_0 np0_0 cp0_0, .int .i64 x0.K]) x0 x1 w2 (spAb.own_rd Op0.out) s0').mono ?_; rintro e w3 ⟨rfl, hb⟩
    clear ba0l ba00 ba01
    replace Op0 := Lib.hid (spAb.own_below Op0.out hb)
    replace Ba0 := Ba0.below hb
    replace L := bstep L L.size hb
    clear hb
    obtain ⟨ba0l, ba00, ba01⟩ := Ba0.c2
    go_wp2_with (fail)
    refine (toAb_ok (.agg #[.slice Aa0_0 na0_0 ca0_0, .int .i64 x0.K]) x0 w3 (spAb.rd_below RW0.out L) s0').mono ?_; rintro e w4 ⟨uq0, Sq0, rfl, owq0, hSq0, hb⟩
    clear ba0l ba00 ba01
    have Na0_q0 : ¬ Sq0 (w.heap.size) := fun g => by have := hSq0 _ g; have := Ba0.lt; omega
    have Hq0 : Hid (∀ k, Sq0 k → w.heap.size ≤ k) := Lib.hid fun k g => by have := hSq0 k g; have := L.size; omega
    replace Ba0 := Ba0.below hb
    replace L := bstep L L.size hb
    clear hb hSq0
    obtain ⟨Aq0_0, nq0_0, cq0_0, rfl, -⟩ := spAb_form (spAb.own_rd owq0)
    have Oq0 := Lib.hid owq0
    clear owq0
    have Bq0 := Blk.new w4 [.slice Aq0_0 nq0_0 cq0_0, .int .i64 x0.K] 38
    have Nq0_q0 : ¬ Sq0 w4.heap.size := fun g => by have := spAb.own_lt Oq0.out g; omega
    have hbx : Below w4.heap.size w4 (w4.alloc (.cells [.slice Aq0_0 nq0_0 cq0_0, .int .i64 x0.K].toArray 38)) := (Below.refl _ _).alloc (Nat.le_refl _) _
    replace Oq0 := Lib.hid (spAb.own_below Oq0.out hbx)
    replace Ba0 := Ba0.below hbx
    replace L := bstep L L.size hbx
    clear hbx
    obtain ⟨ba0l, ba00, ba01⟩ := Ba0.c2
    obtain ⟨bq0l, bq00, bq01⟩ := Bq0.c2
    go_wp2_with (fail)
    refine (iCountPrimeSubgroups_ok (.agg #[.slice Aq0_0 nq0_0 cq0_0, .int .i64 x0.K]) x0 x1 (w4.alloc (.cells [.slice Aq0_0 nq0_0 cq0_0, .int .i64 x0.K].toArray 38)) (spAb.own_rd Oq0.out) s0').mono ?_; rintro e w5 ⟨rfl, hb⟩
    clear ba0l ba00 ba01 bq0l bq00 bq01
    replace Oq0 := Lib.hid (spAb.own_below Oq0.out hb)
    replace Ba0 := Ba0.below hb
    replace Bq0 := Bq0.below hb
    replace L := bstep L L.size hb
    clear hb
    obtain ⟨ba0l, ba00, ba01⟩ := Ba0.c2
    obtain ⟨bq0l, bq00, bq01⟩ := Bq0.c2
    have HT := Lib.hid (toAb_ok (.agg #[.slice Aa0_0 na0_0 ca0_0, .int .i64 x0.K]) x0 w5.drew (spAb.rd_drew (spAb.rd_below RW0.out L)) s0')
    go_wp2_with (fail)
    go_region_held3 (fun wx => wx.cell? ⟨w4.heap.size, 0, none⟩ = some (.slice Aq0_0 nq0_0 cq0_0) ∧ wx.cell? ⟨w4.heap.size, 1, none⟩ = some (.int .i64 x0.K) ∧ wx.cell? ⟨(w.heap.size), 0, none⟩ = some (.slice Aa0_0 na0_0 ca0_0) ∧ wx.cell? ⟨(w.heap.size), 1, none⟩ = some (.int .i64 x0.K)) (first | go_keep | assumption) (first | (go_at_call 23; refine HT.out.mono ?_; rintro e w6 ⟨ut0, St0, rfl, owt0, hSt0, hb⟩; have SM : w6.cell? ⟨w4.heap.size, 0, none⟩ = some (.slice Aq0_0 nq0_0 cq0_0) ∧ w6.cell? ⟨w4.heap.size, 1, none⟩ = some (.int .i64 x0.K) ∧ w6.cell? ⟨(w.heap.size), 0, none⟩ = some (.slice Aa0_0 na0_0 ca0_0) ∧ w6.cell? ⟨(w.heap.size), 1, none⟩ = some (.int .i64 x0.K) := ⟨(Blk.cell (Bq0.drew.below hb) 0 (by simp)), (Blk.cell (Bq0.drew.below hb) 1 (by simp)), (Blk.cell (Ba0.drew.below hb) 0 (by simp)), (Blk.cell (Ba0.drew.below hb) 1 (by simp))⟩) | (go_at_call 25; refine (eqAb_ok (.agg #[.slice Aq0_0 nq0_0 cq0_0, .int .i64 x0.K]) _ x0 _ (spAb.rd_below (spAb.rd_drew (spAb.own_rd Oq0.out)) hb) (spAb.own_rd owt0)).mono ?_; rintro e w7 ⟨rfl, hb2⟩; have SM2 : w7.cell? ⟨w4.heap.size, 0, none⟩ = some (.slice Aq0_0 nq0_0 cq0_0) ∧ w7.cell? ⟨w4.heap.size, 1, none⟩ = some (.int .i64 x0.K) ∧ w7.cell? ⟨(w.heap.size), 0, none⟩ = some (.slice Aa0_0 na0_0 ca0_0) ∧ w7.cell? ⟨(w.heap.size), 1, none⟩ = some (.int .i64 x0.K) := ⟨(Blk.cell ((Bq0.drew.below hb).below hb2) 0 (by simp)), (Blk.cell ((Bq0.drew.below hb).below hb2) 1 (by simp)), (Blk.cell ((Ba0.drew.below hb).below hb2) 0 (by simp)), (Blk.cell ((Ba0.drew.below hb).below hb2) 1 (by simp))⟩))
    clear ba0l ba00 ba01 bq0l bq00 bq01
    have hd : Below w5.heap.size w5 w5.drew := (Below.refl _ _).drew
    replace Oq0 := Lib.hid (spAb.own_below Oq0.out hd)
    replace Ba0 := Ba0.below hd
    replace Bq0 := Bq0.below hd
    replace L := bstep L L.size hd
    replace Oq0 := Lib.hid (spAb.own_below Oq0.out hb)
    replace Ba0 := Ba0.below hb
    replace Bq0 := Bq0.below hb
    replace L := bstep L L.size hb
    replace Oq0 := Lib.hid (spAb.own_below Oq0.out hb2)
    replace Ba0 := Ba0.below hb2
    replace Bq0 := Bq0.below hb2
    replace L := bstep L L.size hb2
    clear hd hb hb2 HT SM SM2 owt0 hSt0
    obtain ⟨ba0l, ba00, ba01⟩ := Ba0.c2
    obtain ⟨bq0l, bq00, bq01⟩ := Bq0.c2
    go_wp2_with (fail)
    go_ret
    exact ⟨rfl, L⟩
  · obtain ⟨ba0l, ba00, ba01⟩ := Ba0.c2
    have HC := Lib.hid (szAb_ok (.agg #[.slice Aa0_0 na0_0 ca0_0, .int .i64 x0.K]) x0 (1048576) (w.alloc (.cells [.slice Aa0_0 na0_0 ca0_0, .int .i64 x0.K].toArray 35)) (spAb.rd_below RW0.out L) (by omega) (by omega))
    rw [szLeft_no (n := spAb.sz x0) (left := 1048576) (by omega)] at HC
    go_enter Try.func10, Try.ntmps10
    go_wp2_with (fail)
    refine HC.out.mono ?_; rintro e w1 ⟨rfl, hb⟩
    clear ba0l ba00 ba01
    clear HC
    replace Ba0 := Ba0.below hb
    replace L := bstep L L.size hb
    clear hb
    obtain ⟨ba0l, ba00, ba01⟩ := Ba0.c2
    go_wp2_with (fail)
    go_ret
    exact ⟨rfl, L⟩
theorem fnExactCountPrimeSubgroups_walk (A0 : Option Addr) (c0 : Nat) (xs0 : List Int) (K0 : Int) (a1 : Int) (w : World) (w0 : RdI w A0 xs0 ∧ xs0.length ≤ maxLen) (w1 : (Lit.int .i64 a1).wf = true) :
    Calls Try.prog 10 #[.agg #[.slice A0 xs0.length c0, .int .i64 K0], .int .i64 a1] w fun e w' => e = .returned (.bool true) ∧ Below w.heap.size w w' :=
  fnExactCountPrimeSubgroups_run (.agg #[.slice A0 xs0.length c0, .int .i64 K0]) ⟨xs0, K0⟩ a1 w (rdAb_of w0)
end Go.Proofs.Ytihdidbikeaafaa
