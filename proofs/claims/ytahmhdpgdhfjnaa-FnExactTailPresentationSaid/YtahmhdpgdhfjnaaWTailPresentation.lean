/- The walk of the exact law of TailPresentation. -/
import Derived.Test.YtahmhdpgdhfjnaaL13S
import Derived.Test.YtahmhdpgdhfjnaaL13U
import Derived.Test.YtahmhdpgdhfjnaaOpP
import Derived.Deep.RegionHeld3
import Derived.Deep.DeepCutAuto
namespace Go.Proofs.Ytahmhdpgdhfjnaa
open Go.RowKit
set_option linter.unusedVariables false
set_option linter.unusedSimpArgs false

set_option maxRecDepth 100000 in
set_option maxHeartbeats 4000000 in
theorem fnExactTailPresentation_run (v0 : Value) (x0 : Pres) (x1 : Int) (w : World) (h0 : spPres.rd w v0 x0) :
    Calls Try.prog 5 #[v0, .int .i64 x1] w fun e w' => e = .returned (.bool true) ∧ Below w.heap.size w w' := by
  obtain ⟨Aa0_0, na0_0, ca0_0, Aa0_1, na0_1, ca0_1, Aa0_2, na0_2, ca0_2, rfl, -, -, -⟩ := spPres_form h0
  have L : Below w.heap.size w (w.alloc (.cells [.slice Aa0_0 na0_0 ca0_0, .slice Aa0_1 na0_1 ca0_1, .slice Aa0_2 na0_2 ca0_2].toArray 47)) := by go_grown
  have Ba0 : Blk (w.alloc (.cells [.slice Aa0_0 na0_0 ca0_0, .slice Aa0_1 na0_1 ca0_1, .slice Aa0_2 na0_2 ca0_2].toArray 47)) (w.heap.size) [.slice Aa0_0 na0_0 ca0_0, .slice Aa0_1 na0_1 ca0_1, .slice Aa0_2 na0_2 ca0_2] 47 := by have := Blk.new w [.slice Aa0_0 na0_0 ca0_0, .slice Aa0_1 na0_1 ca0_1, .slice Aa0_2 na0_2 ca0_2] 47; simpa only [World.size_alloc] using this
  have RW0 := Lib.hid h0
  clear h0
  by_cases s0 : (spPres.sz x0 : Int) ≤ 1048576
  · have s0' : spPres.sz x0 ≤ 1048576 := by omega
    obtain ⟨ba0l, ba00, ba01, ba02⟩ := Ba0.c3
    have HC := Lib.hid (szPres_ok (.agg #[.slice Aa0_0 na0_0 ca0_0, .slice Aa0_1 na0_1 ca0_1, .slice Aa0_2 na0_2 ca0_2]) x0 (1048576) (w.alloc (.cells [.slice Aa0_0 na0_0 ca0_0, .slice Aa0_1 na0_1 ca0_1, .slice Aa0_2 na0_2 ca0_2].toArray 47)) (spPres.rd_below RW0.out L) (by omega) (by omega))
    rw [szLeft_yes (n := spPres.sz x0) (left := 1048576) (by omega)] at HC
    have g0 : 0 ≤ 1048576 - (spPres.sz x0 : Int) := by omega
    have g0' : 1048576 - (spPres.sz x0 : Int) ≤ 1048576 := by omega
    go_enter Try.func5, Try.ntmps5
    go_wp2_with (fail)
    refine HC.out.mono ?_; rintro e w1 ⟨rfl, hb⟩
    clear ba0l ba00 ba01 ba02
    clear HC
    replace Ba0 := Ba0.below hb
    replace L := bstep L L.size hb
    clear hb
    obtain ⟨ba0l, ba00, ba01, ba02⟩ := Ba0.c3
    go_wp2_with (fail)
    refine (toPres_ok (.agg #[.slice Aa0_0 na0_0 ca0_0, .slice Aa0_1 na0_1 ca0_1, .slice Aa0_2 na0_2 ca0_2]) x0 w1 (spPres.rd_below RW0.out L) s0').mono ?_; rintro e w2 ⟨up0, Sp0, rfl, owp0, hSp0, hb⟩
    clear ba0l ba00 ba01 ba02
    have Na0_p0 : ¬ Sp0 (w.heap.size) := fun g => by have := hSp0 _ g; have := Ba0.lt; omega
    have Hp0 : Hid (∀ k, Sp0 k → w.heap.size ≤ k) := Lib.hid fun k g => by have := hSp0 k g; have := L.size; omega
    replace Ba0 := Ba0.below hb
    replace L := bstep L L.size hb
    clear hb hSp0
    obtain ⟨Ap0_0, np0_0, cp0_0, Ap0_1, np0_1, cp0_1, Ap0_2, np0_2, cp0_2, rfl, -, -, -⟩ := spPres_form (spPres.own_rd owp0)
    have Op0 := Lib.hid owp0
    clear owp0
    obtain ⟨ba0l, ba00, ba01, ba02⟩ := Ba0.c3
    go_wp2_with (fail)
    refine (sTailPresentation_ok (.agg #[.slice Ap0_0 np0_0 cp0_0, .slice Ap0_1 np0_1 cp0_1, .slice Ap0_2 np0_2 cp0_2]) x0 x1 w2 (presK_of Op0.out) s0').mono ?_; rintro e w3 ⟨uw0, Sw0, rfl, oww0, hSw0, hcnt, hb⟩
    clear ba0l ba00 ba01 ba02
    clear hcnt
    have Dp0_w0 : Hid (∀ k, Sp0 k → ¬ Sw0 k) := Lib.hid fun k g1 g2 => by have := spPres.own_lt Op0.out g1; have := hSw0 k g2; omega
    have Na0_w0 : ¬ Sw0 (w.heap.size) := fun g => by have := hSw0 _ g; have := Ba0.lt; omega
    have Hw0 : Hid (∀ k, Sw0 k → w.heap.size ≤ k) := Lib.hid fun k g => by have := hSw0 k g; have := L.size; omega
    replace Op0 := Lib.hid (spPres.own_below Op0.out hb)
    replace Ba0 := Ba0.below hb
    replace L := bstep L L.size hb
    clear hb hSw0
    obtain ⟨Aw0_0, nw0_0, cw0_0, Aw0_1, nw0_1, cw0_1, Aw0_2, nw0_2, cw0_2, rfl, -, -, -⟩ := spPres_form (spPres.own_rd oww0)
    have Ow0 := Lib.hid oww0
    clear oww0
    have Bw0 := Blk.new w3 [.slice Aw0_0 nw0_0 cw0_0, .slice Aw0_1 nw0_1 cw0_1, .slice Aw0_2 nw0_2 cw0_2] 28
    have Nw0_p0 : ¬ Sp0 w3.heap.size := fun g => by have := spPres.own_lt Op0.out g; omega
    have Nw0_w0 : ¬ Sw0 w3.heap.size := fun g => by have := spPres.own_lt Ow0.out g; omega
    have hbx : Below w3.heap.size w3 (w3.alloc (.cells [.slice Aw0_0 nw0_0 cw0_0, .slice Aw0_1 nw0_1 cw0_1, .slice Aw0_2 nw0_2 cw0_2].toArray 28)) := (Below.refl _ _).alloc (Nat.le_refl _) _
    replace Op0 := Lib.hid (spPres.own_below Op0.out hbx)
    replace Ow0 := Lib.hid (spPres.own_below Ow0.out hbx)
    replace Ba0 := Ba0.below hbx
    replace L := bstep L L.size hbx
    clear hbx
    obtain ⟨ba0l, ba00, ba01, ba02⟩ := Ba0.c3
    obtain ⟨bw0l, bw00, bw01, bw02⟩ := Bw0.c3
    go_wp2_with (fail)
    refine (toPres_ok (.agg #[.slice Aa0_0 na0_0 ca0_0, .slice Aa0_1 na0_1 ca0_1, .slice Aa0_2 na0_2 ca0_2]) x0 (w3.alloc (.cells [.slice Aw0_0 nw0_0 cw0_0, .slice Aw0_1 nw0_1 cw0_1, .slice Aw0_2 nw0_2 cw0_2].toArray 28)) (spPres.rd_below RW0.out L) s0').mono ?_; rintro e w4 ⟨uq0, Sq0, rfl, owq0, hSq0, hb⟩
    clear ba0l ba00 ba01 ba02 bw0l bw00 bw01 bw02
    have Dw0_q0 : Hid (∀ k, Sw0 k → ¬ Sq0 k) := Lib.hid fun k g1 g2 => by have := spPres.own_lt Ow0.out g1; have := hSq0 k g2; omega
    have Na0_q0 : ¬ Sq0 (w.heap.size) := fun g => by have := hSq0 _ g; have := Ba0.lt; omega
    have Nw0_q0 : ¬ Sq0 w3.heap.size := fun g => by have := hSq0 _ g; have := Bw0.lt; omega
    have Hq0 : Hid (∀ k, Sq0 k → w.heap.size ≤ k) := Lib.hid fun k g => by have := hSq0 k g; have := L.size; omega
    replace Ow0 := Lib.hid (spPres.own_below Ow0.out hb)
    replace Ba0 := Ba0.below hb
    replace Bw0 := Bw0.below hb
    replace L := bstep L L.size hb
    clear hb hSq0
    obtain ⟨Aq0_0, nq0_0, cq0_0, Aq0_1, nq0_1, cq0_1, Aq0_2, nq0_2, cq0_2, rfl, -, -, -⟩ := spPres_form (spPres.own_rd owq0)
    have Oq0 := Lib.hid owq0
    clear owq0
    have Bq0 := Blk.new w4 [.slice Aq0_0 nq0_0 cq0_0, .slice Aq0_1 nq0_1 cq0_1, .slice Aq0_2 nq0_2 cq0_2] 28
    have Nq0_w0 : ¬ Sw0 w4.heap.size := fun g => by have := spPres.own_lt Ow0.out g; omega
    have Nq0_q0 : ¬ Sq0 w4.heap.size := fun g => by have := spPres.own_lt Oq0.out g; omega
    have hbx : Below w4.heap.size w4 (w4.alloc (.cells [.slice Aq0_0 nq0_0 cq0_0, .slice Aq0_1 nq0_1 cq0_1, .slice Aq0_2 nq0_2 cq0_2].toArray 28)) := (Below.refl _ _).alloc (Nat.le_refl _) _
    replace Ow0 := Lib.hid (spPres.own_below Ow0.out hbx)
    replace Oq0 := Lib.hid (spPres.own_below Oq0.out hbx)
    replace Ba0 := Ba0.below hbx
    replace Bw0 := Bw0.below hbx
    replace L := bstep L L.size hbx
    clear hbx
    obtain ⟨ba0l, ba00, ba01, ba02⟩ := Ba0.c3
    obtain ⟨bw0l, bw00, bw01, bw02⟩ := Bw0.c3
    obtain ⟨bq0l, bq00, bq01, bq02⟩ := Bq0.c3
    go_wp2_with (fail)
    refine (iTailPresentation_ok (.agg #[.slice Aq0_0 nq0_0 cq0_0, .slice Aq0_1 nq0_1 cq0_1, .slice Aq0_2 nq0_2 cq0_2]) x0 x1 (w4.alloc (.cells [.slice Aq0_0 nq0_0 cq0_0, .slice Aq0_1 nq0_1 cq0_1, .slice Aq0_2 nq0_2 cq0_2].toArray 28)) (presK_of Oq0.out) s0').mono ?_; rintro e w5 ⟨ug0, Sg0, rfl, owg0, hSg0, hcnt, hb⟩
    clear ba0l ba00 ba01 ba02 bw0l bw00 bw01 bw02 bq0l bq00 bq01 bq02
    have Dw0_g0 : Hid (∀ k, Sw0 k → ¬ Sg0 k) := Lib.hid fun k g1 g2 => by have := spPres.own_lt Ow0.out g1; have := hSg0 k g2; omega
    have Dq0_g0 : Hid (∀ k, Sq0 k → ¬ Sg0 k) := Lib.hid fun k g1 g2 => by have := spPres.own_lt Oq0.out g1; have := hSg0 k g2; omega
    have Na0_g0 : ¬ Sg0 (w.heap.size) := fun g => by have := hSg0 _ g; have := Ba0.lt; omega
    have Nw0_g0 : ¬ Sg0 w3.heap.size := fun g => by have := hSg0 _ g; have := Bw0.lt; omega
    have Nq0_g0 : ¬ Sg0 w4.heap.size := fun g => by have := hSg0 _ g; have := Bq0.lt; omega
    have Hg0 : Hid (∀ k, Sg0 k → w.heap.size ≤ k) := Lib.hid fun k g => by have := hSg0 k g; have := L.size; omega
    replace Ow0 := Lib.hid (spPres.own_below Ow0.out hb)
    replace Oq0 := Lib.hid (spPres.own_below Oq0.out hb)
    replace Ba0 := Ba0.below hb
    replace Bw0 := Bw0.below hb
    replace Bq0 := Bq0.below hb
    replace L := bstep L L.size hb
    clear hb hSg0
    obtain ⟨Ag0_0, ng0_0, cg0_0, Ag0_1, ng0_1, cg0_1, Ag0_2, ng0_2, cg0_2, rfl, -, -, -⟩ := spPres_form (spPres.own_rd owg0)
    have Og0 := Lib.hid owg0
    clear owg0
    have Bg0 := Blk.new w5 [.slice Ag0_0 ng0_0 cg0_0, .slice Ag0_1 ng0_1 cg0_1, .slice Ag0_2 ng0_2 cg0_2] 28
    have Ng0_w0 : ¬ Sw0 w5.heap.size := fun g => by have := spPres.own_lt Ow0.out g; omega
    have Ng0_q0 : ¬ Sq0 w5.heap.size := fun g => by have := spPres.own_lt Oq0.out g; omega
    have Ng0_g0 : ¬ Sg0 w5.heap.size := fun g => by have := spPres.own_lt Og0.out g; omega
    have hbx : Below w5.heap.size w5 (w5.alloc (.cells [.slice Ag0_0 ng0_0 cg0_0, .slice Ag0_1 ng0_1 cg0_1, .slice Ag0_2 ng0_2 cg0_2].toArray 28)) := (Below.refl _ _).alloc (Nat.le_refl _) _
    replace Ow0 := Lib.hid (spPres.own_below Ow0.out hbx)
    replace Oq0 := Lib.hid (spPres.own_below Oq0.out hbx)
    replace Og0 := Lib.hid (spPres.own_below Og0.out hbx)
    replace Ba0 := Ba0.below hbx
    replace Bw0 := Bw0.below hbx
    replace Bq0 := Bq0.below hbx
    replace L := bstep L L.size hbx
    clear hbx
    obtain ⟨ba0l, ba00, ba01, ba02⟩ := Ba0.c3
    obtain ⟨bw0l, bw00, bw01, bw02⟩ := Bw0.c3
    obtain ⟨bq0l, bq00, bq01, bq02⟩ := Bq0.c3
    obtain ⟨bg0l, bg00, bg01, bg02⟩ := Bg0.c3
    go_wp2_with (fail)
    refine (eqPres_ok (.agg #[.slice Ag0_0 ng0_0 cg0_0, .slice Ag0_1 ng0_1 cg0_1, .slice Ag0_2 ng0_2 cg0_2]) (.agg #[.slice Aw0_0 nw0_0 cw0_0, .slice Aw0_1 nw0_1 cw0_1, .slice Aw0_2 nw0_2 cw0_2]) (rTailPresentation x0 x1) (w5.alloc (.cells [.slice Ag0_0 ng0_0 cg0_0, .slice Ag0_1 ng0_1 cg0_1, .slice Ag0_2 ng0_2 cg0_2].toArray 28)) (spPres.own_rd Og0.out) (spPres.own_rd Ow0.out)).mono ?_; rintro e w6 ⟨rfl, hb⟩
    clear ba0l ba00 ba01 ba02 bw0l bw00 bw01 bw02 bq0l bq00 bq01 bq02 bg0l bg00 bg01 bg02
    replace Ow0 := Lib.hid (spPres.own_below Ow0.out hb)
    replace Oq0 := Lib.hid (spPres.own_below Oq0.out hb)
    replace Og0 := Lib.hid (spPres.own_below Og0.out hb)
    replace Ba0 := Ba0.below hb
    replace Bw0 := Bw0.below hb
    replace Bq0 := Bq0.below hb
    replace Bg0 := Bg0.below hb
    replace L := bstep L L.size hb
    clear hb
    obtain ⟨ba0l, ba00, ba01, ba02⟩ := Ba0.c3
    obtain ⟨bw0l, bw00, bw01, bw02⟩ := Bw0.c3
    obtain ⟨bq0l, bq00, bq01, bq02⟩ := Bq0.c3
    obtain ⟨bg0l, bg00, bg01, bg02⟩ := Bg0.c3
    have HT := Lib.hid (toPres_ok (.agg #[.slice Aa0_0 na0_0 ca0_0, .slice Aa0_1 na0_1 ca0_1, .slice Aa0_2 na0_2 ca0_2]) x0 w6.drew (spPres.rd_drew (spPres.rd_below RW0.out L)) s0')
    go_wp2_with (fail)
    go_region_held3 (fun wx => wx.cell? ⟨w4.heap.size, 0, none⟩ = some (.slice Aq0_0 nq0_0 cq0_0) ∧ wx.cell? ⟨w4.heap.size, 1, none⟩ = some (.slice Aq0_1 nq0_1 cq0_1) ∧ wx.cell? ⟨w4.heap.size, 2, none⟩ = some (.slice Aq0_2 nq0_2 cq0_2) ∧ wx.cell? ⟨(w.heap.size), 0, none⟩ = some (.slice Aa0_0 na0_0 ca0_0) ∧ wx.cell? ⟨(w.heap.size), 1, none⟩ = some (.slice Aa0_1 na0_1 ca0_1) ∧ wx.cell? ⟨(w.heap.size), 2, none⟩ = some (.slice Aa0_2 na0_2 ca0_2)) (first | go_keep | assumption) (first | (go_at_call 29; refine HT.out.mono ?_; rintro e w7 ⟨ut0, St0, rfl, owt0, hSt0, hb⟩; have SM : w7.cell? ⟨w4.heap.size, 0, none⟩ = some (.slice Aq0_0 nq0_0 cq0_0) ∧ w7.cell? ⟨w4.heap.size, 1, none⟩ = some (.slice Aq0_1 nq0_1 cq0_1) ∧ w7.cell? ⟨w4.heap.size, 2, none⟩ = some (.slice Aq0_2 nq0_2 cq0_2) ∧ w7.cell? ⟨(w.heap.size), 0, none⟩ = some (.slice Aa0_0 na0_0 ca0_0) ∧ w7.cell? ⟨(w.heap.size), 1, none⟩ = some (.slice Aa0_1 na0_1 ca0_1) ∧ w7.cell? ⟨(w.heap.size), 2, none⟩ = some (.slice Aa0_2 na0_2 ca0_2) := ⟨(Blk.cell (Bq0.drew.below hb) 0 (by simp)), (Blk.cell (Bq0.drew.below hb) 1 (by simp)), (Blk.cell (Bq0.drew.below hb) 2 (by simp)), (Blk.cell (Ba0.drew.below hb) 0 (by simp)), (Blk.cell (Ba0.drew.below hb) 1 (by simp)), (Blk.cell (Ba0.drew.below hb) 2 (by simp))⟩) | (go_at_call 30; refine (eqPres_ok (.agg #[.slice Aq0_0 nq0_0 cq0_0, .slice Aq0_1 nq0_1 cq0_1, .slice Aq0_2 nq0_2 cq0_2]) _ x0 _ (spPres.rd_below (spPres.rd_drew (spPres.own_rd Oq0.out)) hb) (spPres.own_rd owt0)).mono ?_; rintro e w8 ⟨rfl, hb2⟩; have SM2 : w8.cell? ⟨w4.heap.size, 0, none⟩ = some (.slice Aq0_0 nq0_0 cq0_0) ∧ w8.cell? ⟨w4.heap.size, 1, none⟩ = some (.slice Aq0_1 nq0_1 cq0_1) ∧ w8.cell? ⟨w4.heap.size, 2, none⟩ = some (.slice Aq0_2 nq0_2 cq0_2) ∧ w8.cell? ⟨(w.heap.size), 0, none⟩ = some (.slice Aa0_0 na0_0 ca0_0) ∧ w8.cell? ⟨(w.heap.size), 1, none⟩ = some (.slice Aa0_1 na0_1 ca0_1) ∧ w8.cell? ⟨(w.heap.size), 2, none⟩ = some (.slice Aa0_2 na0_2 ca0_2) := ⟨(Blk.cell ((Bq0.drew.below hb).below hb2) 0 (by simp)), (Blk.cell ((Bq0.drew.below hb).below hb2) 1 (by simp)), (Blk.cell ((Bq0.drew.below hb).below hb2) 2 (by simp)), (Blk.cell ((Ba0.drew.below hb).below hb2) 0 (by simp)), (Blk.cell ((Ba0.drew.below hb).below hb2) 1 (by simp)), (Blk.cell ((Ba0.drew.below hb).below hb2) 2 (by simp))⟩))
    clear ba0l ba00 ba01 ba02 bw0l bw00 bw01 bw02 bq0l bq00 bq01 bq02 bg0l bg00 bg01 bg02
    have hd : Below w6.heap.size w6 w6.drew := (Below.refl _ _).drew
    replace Ow0 := Lib.hid (spPres.own_below Ow0.out hd)
    replace Oq0 := Lib.hid (spPres.own_below Oq0.out hd)
    replace Og0 := Lib.hid (spPres.own_below Og0.out hd)
    replace Ba0 := Ba0.below hd
    replace Bw0 := Bw0.below hd
    replace Bq0 := Bq0.below hd
    replace Bg0 := Bg0.below hd
    replace L := bstep L L.size hd
    replace Ow0 := Lib.hid (spPres.own_below Ow0.out hb)
    replace Oq0 := Lib.hid (spPres.own_below Oq0.out hb)
    replace Og0 := Lib.hid (spPres.own_below Og0.out hb)
    replace Ba0 := Ba0.below hb
    replace Bw0 := Bw0.below hb
    replace Bq0 := Bq0.below hb
    replace Bg0 := Bg0.below hb
    replace L := bstep L L.size hb
    replace Ow0 := Lib.hid (spPres.own_below Ow0.out hb2)
    replace Oq0 := Lib.hid (spPres.own_below Oq0.out hb2)
    replace Og0 := Lib.hid (spPres.own_below Og0.out hb2)
    replace Ba0 := Ba0.below hb2
    replace Bw0 := Bw0.below hb2
    replace Bq0 := Bq0.below hb2
    replace Bg0 := Bg0.below hb2
    replace L := bstep L L.size hb2
    clear hd hb hb2 HT SM SM2 owt0 hSt0
    have e0 := spPres_cnt x0
    obtain ⟨ba0l, ba00, ba01, ba02⟩ := Ba0.c3
    obtain ⟨bw0l, bw00, bw01, bw02⟩ := Bw0.c3
    obtain ⟨bq0l, bq00, bq01, bq02⟩ := Bq0.c3
    obtain ⟨bg0l, bg00, bg01, bg02⟩ := Bg0.c3
    go_wp2_with (fail)
    refine (markPres_ok Sq0 (.agg #[.slice Aq0_0 nq0_0 cq0_0, .slice Aq0_1 nq0_1 cq0_1, .slice Aq0_2 nq0_2 cq0_2]) x0 (1) w8 Oq0.out (by omega) (by omega)).mono ?_; rintro e w9 ⟨rfl, ow, ch⟩
    clear ba0l ba00 ba01 ba02 bw0l bw00 bw01 bw02 bq0l bq00 bq01 bq02 bg0l bg00 bg01 bg02
    replace Ow0 := Lib.hid (spPres.own_chg Ow0.out ch Dw0_q0.out)
    replace Og0 := Lib.hid (spPres.own_chg Og0.out ch (fun k g1 g2 => Dq0_g0.out k g2 g1))
    replace Ba0 := Ba0.chg ch Na0_q0
    replace Bw0 := Bw0.chg ch Nw0_q0
    replace Bq0 := Bq0.chg ch Nq0_q0
    replace Bg0 := Bg0.chg ch Ng0_q0
    replace L := bstepS L L.size Hq0.out ch
    replace Oq0 := Lib.hid ow
    clear ow ch
    have kp0 : 0 ≤ 1 + (spPres.cnt x0 : Int) := by omega
    obtain ⟨ba0l, ba00, ba01, ba02⟩ := Ba0.c3
    obtain ⟨bw0l, bw00, bw01, bw02⟩ := Bw0.c3
    obtain ⟨bq0l, bq00, bq01, bq02⟩ := Bq0.c3
    obtain ⟨bg0l, bg00, bg01, bg02⟩ := Bg0.c3
    go_wp2_with (fail)
    refine (eqPres_ok (.agg #[.slice Ag0_0 ng0_0 cg0_0, .slice Ag0_1 ng0_1 cg0_1, .slice Ag0_2 ng0_2 cg0_2]) (.agg #[.slice Aw0_0 nw0_0 cw0_0, .slice Aw0_1 nw0_1 cw0_1, .slice Aw0_2 nw0_2 cw0_2]) (rTailPresentation x0 x1) w9 (spPres.own_rd Og0.out) (spPres.own_rd Ow0.out)).mono ?_; rintro e w10 ⟨rfl, hb⟩
    clear ba0l ba00 ba01 ba02 bw0l bw00 bw01 bw02 bq0l bq00 bq01 bq02 bg0l bg00 bg01 bg02
    replace Ow0 := Lib.hid (spPres.own_below Ow0.out hb)
    replace Oq0 := Lib.hid (spPres.own_below Oq0.out hb)
    replace Og0 := Lib.hid (spPres.own_below Og0.out hb)
    replace Ba0 := Ba0.below hb
    replace Bw0 := Bw0.below hb
    replace Bq0 := Bq0.below hb
    replace Bg0 := Bg0.below hb
    replace L := bstep L L.size hb
    clear hb
    obtain ⟨ba0l, ba00, ba01, ba02⟩ := Ba0.c3
    obtain ⟨bw0l, bw00, bw01, bw02⟩ := Bw0.c3
    obtain ⟨bg0l, bg00, bg01, bg02⟩ := Bg0.c3
    go_wp2_with (fail)
    refine (markPres_ok Sg0 (.agg #[.slice Ag0_0 ng0_0 cg0_0, .slice Ag0_1 ng0_1 cg0_1, .slice Ag0_2 ng0_2 cg0_2]) (rTailPresentation x0 x1) (1) w10 Og0.out (by omega) (by omega)).mono ?_; rintro e w11 ⟨rfl, ow, ch⟩
    clear ba0l ba00 ba01 ba02 bw0l bw00 bw01 bw02 bg0l bg00 bg01 bg02
    replace Ow0 := Lib.hid (spPres.own_chg Ow0.out ch Dw0_g0.out)
    replace Ba0 := Ba0.chg ch Na0_g0
    replace Bw0 := Bw0.chg ch Nw0_g0
    replace Bg0 := Bg0.chg ch Ng0_g0
    replace L := bstepS L L.size Hg0.out ch
    replace Og0 := Lib.hid ow
    clear ow ch
    have km : 0 ≤ 1 + (spPres.cnt (rTailPresentation x0 x1) : Int) := by omega
    obtain ⟨ba0l, ba00, ba01, ba02⟩ := Ba0.c3
    obtain ⟨bw0l, bw00, bw01, bw02⟩ := Bw0.c3
    obtain ⟨bg0l, bg00, bg01, bg02⟩ := Bg0.c3
    go_wp2_with (fail)
    refine (heldPres_ok (.agg #[.slice Ag0_0 ng0_0 cg0_0, .slice Ag0_1 ng0_1 cg0_1, .slice Ag0_2 ng0_2 cg0_2]) (rTailPresentation x0 x1) 1 w11 (spPres.own_rd Og0.out) (by omega) (by omega)).mono ?_; rintro e w12 ⟨rfl, hb⟩
    clear ba0l ba00 ba01 ba02 bw0l bw00 bw01 bw02 bg0l bg00 bg01 bg02
    replace Ow0 := Lib.hid (spPres.own_below Ow0.out hb)
    replace Og0 := Lib.hid (spPres.own_below Og0.out hb)
    replace Ba0 := Ba0.below hb
    replace Bw0 := Bw0.below hb
    replace Bg0 := Bg0.below hb
    replace L := bstep L L.size hb
    clear hb
    obtain ⟨ba0l, ba00, ba01, ba02⟩ := Ba0.c3
    obtain ⟨bw0l, bw00, bw01, bw02⟩ := Bw0.c3
    obtain ⟨bg0l, bg00, bg01, bg02⟩ := Bg0.c3
    go_wp2_with (fail)
    refine (toPres_ok (.agg #[.slice Aa0_0 na0_0 ca0_0, .slice Aa0_1 na0_1 ca0_1, .slice Aa0_2 na0_2 ca0_2]) x0 w12 (spPres.rd_below RW0.out L) s0').mono ?_; rintro e w13 ⟨ur0, Sr0, rfl, owr0, hSr0, hb⟩
    clear ba0l ba00 ba01 ba02 bw0l bw00 bw01 bw02 bg0l bg00 bg01 bg02
    have Dw0_r0 : Hid (∀ k, Sw0 k → ¬ Sr0 k) := Lib.hid fun k g1 g2 => by have := spPres.own_lt Ow0.out g1; have := hSr0 k g2; omega
    have Dg0_r0 : Hid (∀ k, Sg0 k → ¬ Sr0 k) := Lib.hid fun k g1 g2 => by have := spPres.own_lt Og0.out g1; have := hSr0 k g2; omega
    have Na0_r0 : ¬ Sr0 (w.heap.size) := fun g => by have := hSr0 _ g; have := Ba0.lt; omega
    have Nw0_r0 : ¬ Sr0 w3.heap.size := fun g => by have := hSr0 _ g; have := Bw0.lt; omega
    have Ng0_r0 : ¬ Sr0 w5.heap.size := fun g => by have := hSr0 _ g; have := Bg0.lt; omega
    have Hr0 : Hid (∀ k, Sr0 k → w.heap.size ≤ k) := Lib.hid fun k g => by have := hSr0 k g; have := L.size; omega
    replace Ow0 := Lib.hid (spPres.own_below Ow0.out hb)
    replace Og0 := Lib.hid (spPres.own_below Og0.out hb)
    replace Ba0 := Ba0.below hb
    replace Bw0 := Bw0.below hb
    replace Bg0 := Bg0.below hb
    replace L := bstep L L.size hb
    clear hb hSr0
    obtain ⟨Ar0_0, nr0_0, cr0_0, Ar0_1, nr0_1, cr0_1, Ar0_2, nr0_2, cr0_2, rfl, -, -, -⟩ := spPres_form (spPres.own_rd owr0)
    have Or0 := Lib.hid owr0
    clear owr0
    obtain ⟨ba0l, ba00, ba01, ba02⟩ := Ba0.c3
    obtain ⟨bw0l, bw00, bw01, bw02⟩ := Bw0.c3
    obtain ⟨bg0l, bg00, bg01, bg02⟩ := Bg0.c3
    go_wp2_with (fail)
    refine (iTailPresentation_ok (.agg #[.slice Ar0_0 nr0_0 cr0_0, .slice Ar0_1 nr0_1 cr0_1, .slice Ar0_2 nr0_2 cr0_2]) x0 x1 w13 (presK_of Or0.out) s0').mono ?_; rintro e w14 ⟨uh0, Sh0, rfl, owh0, hSh0, hcnt, hb⟩
    clear ba0l ba00 ba01 ba02 bw0l bw00 bw01 bw02 bg0l bg00 bg01 bg02
    clear hcnt
    have Dw0_h0 : Hid (∀ k, Sw0 k → ¬ Sh0 k) := Lib.hid fun k g1 g2 => by have := spPres.own_lt Ow0.out g1; have := hSh0 k g2; omega
    have Dg0_h0 : Hid (∀ k, Sg0 k → ¬ Sh0 k) := Lib.hid fun k g1 g2 => by have := spPres.own_lt Og0.out g1; have := hSh0 k g2; omega
    have Dr0_h0 : Hid (∀ k, Sr0 k → ¬ Sh0 k) := Lib.hid fun k g1 g2 => by have := spPres.own_lt Or0.out g1; have := hSh0 k g2; omega
    have Na0_h0 : ¬ Sh0 (w.heap.size) := fun g => by have := hSh0 _ g; have := Ba0.lt; omega
    have Nw0_h0 : ¬ Sh0 w3.heap.size := fun g => by have := hSh0 _ g; have := Bw0.lt; omega
    have Ng0_h0 : ¬ Sh0 w5.heap.size := fun g => by have := hSh0 _ g; have := Bg0.lt; omega
    have Hh0 : Hid (∀ k, Sh0 k → w.heap.size ≤ k) := Lib.hid fun k g => by have := hSh0 k g; have := L.size; omega
    replace Ow0 := Lib.hid (spPres.own_below Ow0.out hb)
    replace Og0 := Lib.hid (spPres.own_below Og0.out hb)
    replace Or0 := Lib.hid (spPres.own_below Or0.out hb)
    replace Ba0 := Ba0.below hb
    replace Bw0 := Bw0.below hb
    replace Bg0 := Bg0.below hb
    replace L := bstep L L.size hb
    clear hb hSh0
    obtain ⟨Ah0_0, nh0_0, ch0_0, Ah0_1, nh0_1, ch0_1, Ah0_2, nh0_2, ch0_2, rfl, -, -, -⟩ := spPres_form (spPres.own_rd owh0)
    have Oh0 := Lib.hid owh0
    clear owh0
    have Bh0 := Blk.new w14 [.slice Ah0_0 nh0_0 ch0_0, .slice Ah0_1 nh0_1 ch0_1, .slice Ah0_2 nh0_2 ch0_2] 28
    have Nh0_w0 : ¬ Sw0 w14.heap.size := fun g => by have := spPres.own_lt Ow0.out g; omega
    have Nh0_g0 : ¬ Sg0 w14.heap.size := fun g => by have := spPres.own_lt Og0.out g; omega
    have Nh0_r0 : ¬ Sr0 w14.heap.size := fun g => by have := spPres.own_lt Or0.out g; omega
    have Nh0_h0 : ¬ Sh0 w14.heap.size := fun g => by have := spPres.own_lt Oh0.out g; omega
    have hbx : Below w14.heap.size w14 (w14.alloc (.cells [.slice Ah0_0 nh0_0 ch0_0, .slice Ah0_1 nh0_1 ch0_1, .slice Ah0_2 nh0_2 ch0_2].toArray 28)) := (Below.refl _ _).alloc (Nat.le_refl _) _
    replace Ow0 := Lib.hid (spPres.own_below Ow0.out hbx)
    replace Og0 := Lib.hid (spPres.own_below Og0.out hbx)
    replace Or0 := Lib.hid (spPres.own_below Or0.out hbx)
    replace Oh0 := Lib.hid (spPres.own_below Oh0.out hbx)
    replace Ba0 := Ba0.below hbx
    replace Bw0 := Bw0.below hbx
    replace Bg0 := Bg0.below hbx
    replace L := bstep L L.size hbx
    clear hbx
    obtain ⟨ba0l, ba00, ba01, ba02⟩ := Ba0.c3
    obtain ⟨bw0l, bw00, bw01, bw02⟩ := Bw0.c3
    obtain ⟨bg0l, bg00, bg01, bg02⟩ := Bg0.c3
    obtain ⟨bh0l, bh00, bh01, bh02⟩ := Bh0.c3
    go_wp2_with (fail)
    refine (eqPres_ok (.agg #[.slice Ah0_0 nh0_0 ch0_0, .slice Ah0_1 nh0_1 ch0_1, .slice Ah0_2 nh0_2 ch0_2]) (.agg #[.slice Aw0_0 nw0_0 cw0_0, .slice Aw0_1 nw0_1 cw0_1, .slice Aw0_2 nw0_2 cw0_2]) (rTailPresentation x0 x1) (w14.alloc (.cells [.slice Ah0_0 nh0_0 ch0_0, .slice Ah0_1 nh0_1 ch0_1, .slice Ah0_2 nh0_2 ch0_2].toArray 28)) (spPres.own_rd Oh0.out) (spPres.own_rd Ow0.out)).mono ?_; rintro e w15 ⟨rfl, hb⟩
    clear ba0l ba00 ba01 ba02 bw0l bw00 bw01 bw02 bg0l bg00 bg01 bg02 bh0l bh00 bh01 bh02
    replace Ow0 := Lib.hid (spPres.own_below Ow0.out hb)
    replace Og0 := Lib.hid (spPres.own_below Og0.out hb)
    replace Oh0 := Lib.hid (spPres.own_below Oh0.out hb)
    replace Ba0 := Ba0.below hb
    replace Bw0 := Bw0.below hb
    replace Bg0 := Bg0.below hb
    replace Bh0 := Bh0.below hb
    replace L := bstep L L.size hb
    clear hb
    obtain ⟨ba0l, ba00, ba01, ba02⟩ := Ba0.c3
    obtain ⟨bw0l, bw00, bw01, bw02⟩ := Bw0.c3
    obtain ⟨bg0l, bg00, bg01, bg02⟩ := Bg0.c3
    obtain ⟨bh0l, bh00, bh01, bh02⟩ := Bh0.c3
    go_wp2_with (fail)
    refine (heldPres_ok (.agg #[.slice Ag0_0 ng0_0 cg0_0, .slice Ag0_1 ng0_1 cg0_1, .slice Ag0_2 ng0_2 cg0_2]) (rTailPresentation x0 x1) 1 w15 (spPres.own_rd Og0.out) (by omega) (by omega)).mono ?_; rintro e w16 ⟨rfl, hb⟩
    clear ba0l ba00 ba01 ba02 bw0l bw00 bw01 bw02 bg0l bg00 bg01 bg02 bh0l bh00 bh01 bh02
    replace Ow0 := Lib.hid (spPres.own_below Ow0.out hb)
    replace Og0 := Lib.hid (spPres.own_below Og0.out hb)
    replace Oh0 := Lib.hid (spPres.own_below Oh0.out hb)
    replace Ba0 := Ba0.below hb
    replace Bw0 := Bw0.below hb
    replace Bg0 := Bg0.below hb
    replace Bh0 := Bh0.below hb
    replace L := bstep L L.size hb
    clear hb
    obtain ⟨ba0l, ba00, ba01, ba02⟩ := Ba0.c3
    obtain ⟨bw0l, bw00, bw01, bw02⟩ := Bw0.c3
    obtain ⟨bg0l, bg00, bg01, bg02⟩ := Bg0.c3
    obtain ⟨bh0l, bh00, bh01, bh02⟩ := Bh0.c3
    go_wp2_with (fail)
    go_ret
    exact ⟨rfl, L⟩
  · obtain ⟨ba0l, ba00, ba01, ba02⟩ := Ba0.c3
    have HC := Lib.hid (szPres_ok (.agg #[.slice Aa0_0 na0_0 ca0_0, .slice Aa0_1 na0_1 ca0_1, .slice Aa0_2 na0_2 ca0_2]) x0 (1048576) (w.alloc (.cells [.slice Aa0_0 na0_0 ca0_0, .slice Aa0_1 na0_1 ca0_1, .slice Aa0_2 na0_2 ca0_2].toArray 47)) (spPres.rd_below RW0.out L) (by omega) (by omega))
    rw [szLeft_no (n := spPres.sz x0) (left := 1048576) (by omega)] at HC
    go_enter Try.func5, Try.ntmps5
    go_wp2_with (fail)
    refine HC.out.mono ?_; rintro e w1 ⟨rfl, hb⟩
    clear ba0l ba00 ba01 ba02
    clear HC
    replace Ba0 := Ba0.below hb
    replace L := bstep L L.size hb
    clear hb
    obtain ⟨ba0l, ba00, ba01, ba02⟩ := Ba0.c3
    go_wp2_with (fail)
    go_ret
    exact ⟨rfl, L⟩
theorem fnExactTailPresentation_walk (v0 : Value) (x0 : Pres) (a1 : Int) (w : World) (w0 : spPres.rd w v0 x0) (w1 : (Lit.int .i64 a1).wf = true) :
    Calls Try.prog 5 #[v0, .int .i64 a1] w fun e w' => e = .returned (.bool true) ∧ Below w.heap.size w w' :=
  fnExactTailPresentation_run v0 x0 a1 w w0
end Go.Proofs.Ytahmhdpgdhfjnaa
