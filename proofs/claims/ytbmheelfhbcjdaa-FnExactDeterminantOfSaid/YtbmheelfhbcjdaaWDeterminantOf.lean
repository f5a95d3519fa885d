/- The walk of the exact law of DeterminantOf. -/
import Derived.Test.YtbmheelfhbcjdaaL06G
import Derived.Deep.RegionHeld3
import Derived.Deep.DeepCutAuto
namespace Go.Proofs.Ytbmheelfhbcjdaa
open Go.RowKit
set_option linter.unusedVariables false
set_option linter.unusedSimpArgs false

set_option maxRecDepth 100000 in
set_option maxHeartbeats 4000000 in
theorem fnExactDeterminantOf_run (v0 : Value) (x0 : Tab) (w : World) (h0 : spTab.rd w v0 x0) :
    Calls Try.prog 4 #[v0] w fun e w' => e = .returned (.bool true) ∧ Below w.heap.size w w' := by
  obtain ⟨Aa0_1, na0_1, ca0_1, rfl, -⟩ := spTab_form h0
  have L : Below w.heap.size w (w.alloc (.cells [.int .i64 x0.C, .slice Aa0_1 na0_1 ca0_1].toArray 24)) := by go_grown
  have Ba0 : Blk (w.alloc (.cells [.int .i64 x0.C, .slice Aa0_1 na0_1 ca0_1].toArray 24)) (w.heap.size) [.int .i64 x0.C, .slice Aa0_1 na0_1 ca0_1] 24 := by have := Blk.new w [.int .i64 x0.C, .slice Aa0_1 na0_1 ca0_1] 24; simpa only [World.size_alloc] using this
  have RW0 := Lib.hid h0
  clear h0
  by_cases s0 : (spTab.sz x0 : Int) ≤ 1048576
  · have s0' : spTab.sz x0 ≤ 1048576 := by omega
    obtain ⟨ba0l, ba00, ba01⟩ := Ba0.c2
    have HC := Lib.hid (szTab_ok (.agg #[.int .i64 x0.C, .slice Aa0_1 na0_1 ca0_1]) x0 (1048576) (w.alloc (.cells [.int .i64 x0.C, .slice Aa0_1 na0_1 ca0_1].toArray 24)) (spTab.rd_below RW0.out L) (by omega) (by omega))
    rw [szLeft_yes (n := spTab.sz x0) (left := 1048576) (by omega)] at HC
    have g0 : 0 ≤ 1048576 - (spTab.sz x0 : Int) := by omega
    have g0' : 1048576 - (spTab.sz x0 : Int) ≤ 1048576 := by omega
    go_enter Try.func4, Try.ntmps4
    go_wp2_with (fail)
    refine HC.out.mono ?_; rintro e w1 ⟨rfl, hb⟩
    clear ba0l ba00 ba01
    clear HC
    replace Ba0 := Ba0.below hb
    replace L := bstep L L.size hb
    clear hb
    obtain ⟨ba0l, ba00, ba01⟩ := Ba0.c2
    go_wp2_with (fail)
    refine (toTab_ok (.agg #[.int .i64 x0.C, .slice Aa0_1 na0_1 ca0_1]) x0 w1 (spTab.rd_below RW0.out L) s0').mono ?_; rintro e w2 ⟨up0, Sp0, rfl, owp0, hSp0, hb⟩
    clear ba0l ba00 ba01
    have Na0_p0 : ¬ Sp0 (w.heap.size) := fun g => by have := hSp0 _ g; have := Ba0.lt; omega
    have Hp0 : Hid (∀ k, Sp0 k → w.heap.size ≤ k) := Lib.hid fun k g => by have := hSp0 k g; have := L.size; omega
    replace Ba0 := Ba0.below hb
    replace L := bstep L L.size hb
    clear hb hSp0
    obtain ⟨Ap0_1, np0_1, cp0_1, rfl, -⟩ := spTab_form (spTab.own_rd owp0)
    have Op0 := Lib.hid owp0
    clear owp0
    obtain ⟨ba0l, ba00, ba01⟩ := Ba0.c2
    go_wp2_with (fail)
    refine (sDeterminantOf_ok (.agg #[.int .i64 x0.C, .slice Ap0_1 np0_1 cp0_1]) x0 w2 (rdTabC_of Op0.out) s0').mono ?_; rintro e w3 ⟨rfl, hb⟩
    clear ba0l ba00 ba01
    replace Op0 := Lib.hid (spTab.own_below Op0.out hb)
    replace Ba0 := Ba0.below hb
    replace L := bstep L L.size hb
    clear hb
    obtain ⟨ba0l, ba00, ba01⟩ := Ba0.c2
    go_wp2_with (fail)
    refine (toTab_ok (.agg #[.int .i64 x0.C, .slice Aa0_1 na0_1 ca0_1]) x0 w3 (spTab.rd_below RW0.out L) s0').mono ?_; rintro e w4 ⟨uq0, Sq0, rfl, owq0, hSq0, hb⟩
    clear ba0l ba00 ba01
    have Na0_q0 : ¬ Sq0 (w.heap.size) := fun g => by have := hSq0 _ g; have := Ba0.lt; omega
    have Hq0 : Hid (∀ k, Sq0 k → w.heap.size ≤ k) := Lib.hid fun k g => by have := hSq0 k g; have := L.size; omega
    replace Ba0 := Ba0.below hb
    replace L := bstep L L.size hb
    clear hb hSq0
    obtain ⟨Aq0_1, nq0_1, cq0_1, rfl, -⟩ := spTab_form (spTab.own_rd owq0)
    have Oq0 := Lib.hid owq0
    clear owq0
    have Bq0 := Blk.new w4 [.int .i64 x0.C, .slice Aq0_1 nq0_1 cq0_1] 27
    have Nq0_q0 : ¬ Sq0 w4.heap.size := fun g => by have := spTab.own_lt Oq0.out g; omega
    have hbx : Below w4.heap.size w4 (w4.alloc (.cells [.int .i64 x0.C, .slice Aq0_1 nq0_1 cq0_1].toArray 27)) := (Below.refl _ _).alloc (Nat.le_refl _) _
    replace Oq0 := Lib.hid (spTab.own_below Oq0.out hbx)
    replace Ba0 := Ba0.below hbx
    replace L := bstep L L.size hbx
    clear hbx
    obtain ⟨ba0l, ba00, ba01⟩ := Ba0.c2
    obtain ⟨bq0l, bq00, bq01⟩ := Bq0.c2
    go_wp2_with (fail)
    refine (iDeterminantOf_ok (.agg #[.int .i64 x0.C, .slice Aq0_1 nq0_1 cq0_1]) x0 (w4.alloc (.cells [.int .i64 x0.C, .slice Aq0_1 nq0_1 cq0_1].toArray 27)) (spTab.own_rd Oq0.out) s0').mono ?_; rintro e w5 ⟨rfl, hb⟩
    clear ba0l ba00 ba01 bq0l bq00 bq01
    replace Oq0 := Lib.hid (spTab.own_below Oq0.out hb)
    replace Ba0 := Ba0.below hb
    replace Bq0 := Bq0.below hb
    replace L := bstep L L.size hb
    clear hb
    obtain ⟨ba0l, ba00, ba01⟩ := Ba0.c2
    obtain ⟨bq0l, bq00, bq01⟩ := Bq0.c2
    have HT := Lib.hid (toTab_ok (.agg #[.int .i64 x0.C, .slice Aa0_1 na0_1 ca0_1]) x0 w5.drew (spTab.rd_drew (spTab.rd_below RW0.out L)) s0')
    go_wp2_with (fail)
    go_region_held3 (fun wx => wx.cell? ⟨w4.heap.size, 0, none⟩ = some (.int .i64 x0.C) ∧ wx.cell? ⟨w4.heap.size, 1, none⟩ = some (.slice Aq0_1 nq0_1 cq0_1) ∧ wx.cell? ⟨(w.heap.size), 0, none⟩ = some (.int .i64 x0.C) ∧ wx.cell? ⟨(w.heap.size), 1, none⟩ = some (.slice Aa0_1 na0_1 ca0_1)) (first | go_keep | assumption) (first | (go_at_call 13; refine HT.out.mono ?_; rintro e w6 ⟨ut0, St0, rfl, owt0, hSt0, hb⟩; have SM : w6.cell? ⟨w4.heap.size, 0, none⟩ = some (.int .i64 x0.C) ∧ w6.cell? ⟨w4.heap.size, 1, none⟩ = some (.slice Aq0_1 nq0_1 cq0_1) ∧ w6.cell? ⟨(w.heap.size), 0, none⟩ = some (.int .i64 x0.C) ∧ w6.cell? ⟨(w.heap.size), 1, none⟩ = some (.slice Aa0_1 na0_1 ca0_1) := ⟨(Blk.cell (Bq0.drew.below hb) 0 (by simp)), (Blk.cell (Bq0.drew.below hb) 1 (by simp)), (Blk.cell (Ba0.drew.below hb) 0 (by simp)), (Blk.cell (Ba0.drew.below hb) 1 (by simp))⟩) | (go_at_call 15; refine (eqTab_ok (.agg #[.int .i64 x0.C, .slice Aq0_1 nq0_1 cq0_1]) _ x0 _ (spTab.rd_below (spTab.rd_drew (spTab.own_rd Oq0.out)) hb) (spTab.own_rd owt0)).mono ?_; rintro e w7 ⟨rfl, hb2⟩; have SM2 : w7.cell? ⟨w4.heap.size, 0, none⟩ = some (.int .i64 x0.C) ∧ w7.cell? ⟨w4.heap.size, 1, none⟩ = some (.slice Aq0_1 nq0_1 cq0_1) ∧ w7.cell? ⟨(w.heap.size), 0, none⟩ = some (.int .i64 x0.C) ∧ w7.cell? ⟨(w.heap.size), 1, none⟩ = some (.slice Aa0_1 na0_1 ca0_1) := ⟨(Blk.cell ((Bq0.drew.below hb).below hb2) 0 (by simp)), (Blk.cell ((Bq0.drew.below hb).below hb2) 1 (by simp)), (Blk.cell ((Ba0.drew.below hb).below hb2) 0 (by simp)), (Blk.cell ((Ba0.drew.below hb).below hb2) 1 (by simp))⟩))
    clear ba0l ba00 ba01 bq0l bq00 bq01
    have hd : Below w5.heap.size w5 w5.drew := (Below.refl _ _).drew
    replace Oq0 := Lib.hid (spTab.own_below Oq0.out hd)
    replace Ba0 := Ba0.below hd
    replace Bq0 := Bq0.below hd
    replace L := bstep L L.size hd
    replace Oq0 := Lib.hid (spTab.own_below Oq0.out hb)
    replace Ba0 := Ba0.below hb
    replace Bq0 := Bq0.below hb
    replace L := bstep L L.size hb
    replace Oq0 := Lib.hid (spTab.own_below Oq0.out hb2)
    replace Ba0 := Ba0.below hb2
    replace Bq0 := Bq0.below hb2
    replace L := bstep L L.size hb2
    clear hd hb hb2 HT SM SM2 owt0 hSt0
    obtain ⟨ba0l, ba00, ba01⟩ := Ba0.c2
    obtain ⟨bq0l, bq00, bq01⟩ := Bq0.c2
    go_wp2_with (fail)
    go_ret
    exact ⟨rfl, L⟩
  · obtain ⟨ba0l, ba00, ba01⟩ := Ba0.c2
    have HC := Lib.hid (szTab_ok (.agg #[.int .i64 x0.C, .slice Aa0_1 na0_1 ca0_1]) x0 (1048576) (w.alloc (.cells [.int .i64 x0.C, .slice Aa0_1 na0_1 ca0_1].toArray 24)) (spTab.rd_below RW0.out L) (by omega) (by omega))
    rw [szLeft_no (n := spTab.sz x0) (left := 1048576) (by omega)] at HC
    go_enter Try.func4, Try.ntmps4
    go_wp2_with (fail)
    refine HC.out.mono ?_; rintro e w1 ⟨rfl, hb⟩
    clear ba0l ba00 ba01
    clear HC
    replace Ba0 := Ba0.below hb
    replace L := bstep L L.size hb
    clear hb
    obtain ⟨ba0l, ba00, ba01⟩ := Ba0.c2
    go_wp2_with (fail)
    go_ret
    exact ⟨rfl, L⟩
theorem fnExactDeterminantOf_walk (C0 : Int) (A0 : Option Addr) (c0 : Nat) (xss0 : List (List Int)) (w : World) (w0 : RdII w A0 xss0 ∧ (∀ j, j < xss0.length → (xss0.getD j []).length ≤ maxLen) ∧ xss0.length ≤ maxLen) :
    Calls Try.prog 4 #[.agg #[.int .i64 C0, .slice A0 xss0.length c0]] w fun e w' => e = .returned (.bool true) ∧ Below w.heap.size w w' :=
  fnExactDeterminantOf_run (.agg #[.int .i64 C0, .slice A0 xss0.length c0]) ⟨C0, xss0⟩ w (rdTab_of w0)
end Go.Proofs.Ytbmheelfhbcjdaa
