/- The program's StandardComplement. -/
import Derived.Test.YtggkoihlmijacaaL05B
import Derived.Test.YtggkoihlmijacaaL04D
import Derived.Test.YtggkoihlmijacaaL02L
import Derived.Deep.RegionHeld3
namespace Go.Proofs.Ytggkoihlmijacaa
open Go.RowKit
set_option linter.unusedVariables false
set_option linter.unusedSimpArgs false

theorem Num.freeTo_lt (leads : List Nat) (n j : Nat) (h : j < (Num.freeTo leads n).length) : (Num.freeTo leads n).getD j 0 < n := by
  have hm := Num.mem_getD 0 h
  unfold Num.freeTo at hm
  exact List.mem_range.1 (List.mem_filter.1 hm).1
theorem compl_eq {x : Mat} (hk : x.sub = true) : rStandardComplement x = ⟨x.P, x.C, Num.unitsV x.C.toNat (Num.freeTo (x.R.map Num.lead) x.C.toNat)⟩ := by
  unfold rStandardComplement
  rw [if_pos hk]
  rfl
theorem unitsV_len {n : Nat} {l : List Nat} : ∀ i, i < (Num.unitsV n l).length → ((Num.unitsV n l).getD i []).length = n := fun i hi => by
  rw [Num.unitsV_get (by rw [← Num.unitsV_length n l]; exact hi), Num.unitV_length]
set_option maxRecDepth 100000 in
set_option maxHeartbeats 8000000 in
theorem iStandardComplement_ok (v0 : Value) (x0 : Mat) (w : World) (h0 : spMat.rd w v0 x0) (s0 : spMat.sz x0 ≤ 1048576) : Calls Try.prog 31 #[v0] w (MadeC spMat (rStandardComplement x0) (cStandardComplement x0) w) := by
  obtain ⟨A0, n0, c0, rfl, r0⟩ := spMat_form h0
  obtain ⟨rfl, -, -, -⟩ := rdII_of r0
  have L : Below w.heap.size w ((w.alloc (.cells [.int .i64 x0.P, .int .i64 x0.C, .slice A0 x0.R.length c0].toArray 27)).alloc (.cells [.int .i64 0, .int .i64 0, .slice none 0 0].toArray 27)) := by go_grown
  have Ba0 : Blk ((w.alloc (.cells [.int .i64 x0.P, .int .i64 x0.C, .slice A0 x0.R.length c0].toArray 27)).alloc (.cells [.int .i64 0, .int .i64 0, .slice none 0 0].toArray 27)) w.heap.size [.int .i64 x0.P, .int .i64 x0.C, .slice A0 x0.R.length c0] 27 := by have := (Blk.new w [.int .i64 x0.P, .int .i64 x0.C, .slice A0 x0.R.length c0] 27).alloc (.cells [.int .i64 0, .int .i64 0, .slice none 0 0].toArray 27); simpa only [World.size_alloc] using this
  have Br : Blk ((w.alloc (.cells [.int .i64 x0.P, .int .i64 x0.C, .slice A0 x0.R.length c0].toArray 27)).alloc (.cells [.int .i64 0, .int .i64 0, .slice none 0 0].toArray 27)) (w.heap.size + 1) [.int .i64 0, .int .i64 0, .slice none 0 0] 27 := by have := Blk.new (w.alloc (.cells [.int .i64 x0.P, .int .i64 x0.C, .slice A0 x0.R.length c0].toArray 27)) [.int .i64 0, .int .i64 0, .slice none 0 0] 27; simpa only [World.size_alloc] using this
  have K0 := Lib.hid (spMat.rd_below h0 L)
  have R0 := Lib.hid (spII.rd_below r0 L)
  clear h0 r0
  cases hk0 : x0.sub with
  | false =>
    have HEC : Hid (cStandardComplement x0 = 1) := Lib.hid (by unfold cStandardComplement; simp [hk0])
    have HER : Hid (rStandardComplement x0 = noMat) := Lib.hid (by unfold rStandardComplement; simp [hk0])
    have HC := Lib.hid (isSub_no _ x0 _ K0.out hk0)
    clear hk0
    go_enter Try.func31, Try.ntmps31
    go_wp2_with (fail)
    refine (HC.out).mono ?_; rintro e w1 ⟨rfl, hb⟩
    replace L := bstep L L.size hb
    replace Ba0 := Ba0.below hb
    replace Br := Br.below hb
    replace K0 := Lib.hid (spMat.rd_below K0.out hb)
    replace R0 := Lib.hid (spII.rd_below R0.out hb)
    clear hb
    obtain ⟨bla0, qa00, qa01, qa02⟩ := Ba0.c3
    obtain ⟨blr, qr0, qr1, qr2⟩ := Br.c3
    obtain ⟨f0, f1, f2⟩ := Br.f3
    go_wp2_with (fail)
    refine bodyPost_ret (v := .tuple #[.agg #[.int .i64 0, .int .i64 0, .slice none 0 0], .int .i64 1]) (by simp [results, Try.results31, go_sem, bla0, qa00, qa01, qa02, blr, qr0, qr1, qr2]) rfl ?_
    rw [HER.out, HEC.out]
    exact MadeC.none rfl ((((L).setCell (p := ⟨(w.heap.size + 1), 0, none⟩) (by simp; try omega) _).setCell (p := ⟨(w.heap.size + 1), 1, none⟩) (by simp; try omega) _).setCell (p := ⟨(w.heap.size + 1), 2, none⟩) (by simp; try omega) _)
  | true =>
    have HC := Lib.hid (isSub_yes _ x0 _ K0.out hk0)
    obtain ⟨g1, g2, g3, g4, g5, g6, g7⟩ := Mat.sub_out hk0
    have fl := Num.freeTo_len (x0.R.map Num.lead) x0.C.toNat
    have eC : ((x0.C.toNat : Nat) : Int) = x0.C := by omega
    have HEC : Hid (cStandardComplement x0 = 0) := Lib.hid (by unfold cStandardComplement; simp [hk0])
    have HER := Lib.hid (compl_eq hk0)
    have HCB : Hid (spMat.cnt ⟨x0.P, x0.C, Num.unitsV x0.C.toNat (Num.freeTo (x0.R.map Num.lead) x0.C.toNat)⟩ ≤ 1000000000) := Lib.hid (cnt_bd unitsV_len (by rw [Num.unitsV_length]; omega) (by omega))
    have H1 : Hid (∀ W u, spMat.rd W u x0 → Calls Try.prog 77 #[u] W fun e w' => ∃ u, e = .returned u ∧ spI.rd w' u (Num.pivs x0.R) ∧ Below W.heap.size W w') := Lib.hid fun W u hu => pivotsOf_any u x0 W hu (Mat.sub_ok hk0)
    have H2 : Hid (∀ W u, spI.rd W u (Num.pivs x0.R) → Calls Try.prog 76 #[.int .i64 x0.C, u] W fun e w' => ∃ u, e = .returned u ∧ spI.rd w' u (Num.ints (Num.freeTo (x0.R.map Num.lead) x0.C.toNat)) ∧ Below W.heap.size W w') := Lib.hid fun W u hu => by
      have := columnsWithout_any x0.C.toNat u x0.R W hu g6 (by omega)
      rwa [eC] at this
    have H3 : Hid (∀ W u, spI.rd W u (Num.ints (Num.freeTo (x0.R.map Num.lead) x0.C.toNat)) → Calls Try.prog 75 #[.int .i64 x0.P, .int .i64 x0.C, u] W (Made spMat ⟨x0.P, x0.C, Num.unitsV x0.C.toNat (Num.freeTo (x0.R.map Num.lead) x0.C.toNat)⟩ W)) := Lib.hid fun W u hu => by
      have := unitsAt_any x0.P x0.C.toNat u _ W hu (by omega) (by omega) (fun j hj => Num.freeTo_lt _ _ j hj) g2 g3
      rwa [eC] at this
    have ne1 : ¬ (w.heap.size = w.heap.size + 1) := by omega
    have ne2 : ¬ (w.heap.size + 1 = w.heap.size) := by omega
    clear hk0 g1 g2 g3 g4 g5 g6 g7 fl eC
    generalize Num.unitsV x0.C.toNat (Num.freeTo (x0.R.map Num.lead) x0.C.toNat) = RU at *
    go_enter Try.func31, Try.ntmps31
    go_wp2_with (fail)
    refine (HC.out).mono ?_; rintro e w1 ⟨rfl, hb⟩
    replace L := bstep L L.size hb
    replace Ba0 := Ba0.below hb
    replace Br := Br.below hb
    replace K0 := Lib.hid (spMat.rd_below K0.out hb)
    replace R0 := Lib.hid (spII.rd_below R0.out hb)
    clear hb
    obtain ⟨bla0, qa00, qa01, qa02⟩ := Ba0.c3
    obtain ⟨blr, qr0, qr1, qr2⟩ := Br.c3
    obtain ⟨f0, f1, f2⟩ := Br.f3
    have LC0 : Below w1.heap.size w1 w1.drew := (Below.refl _ _).drew
    go_wp2_with (fail)
    clear blr qr0 qr1 qr2
    clear f0 f1 f2
    go_region_held3 (fun wx => wx.cell? ⟨w.heap.size, 0, none⟩ = some (.int .i64 x0.P) ∧ wx.cell? ⟨w.heap.size, 1, none⟩ = some (.int .i64 x0.C) ∧ wx.cell? ⟨w.heap.size, 2, none⟩ = some (.slice A0 x0.R.length c0)) (first | assumption | go_keep) (first
        | (go_at_call 77; refine (H1.out _ _ (spMat.rd_below K0.out LC0)).mono ?_; rintro e w2 ⟨up, rfl, rdp, hbp⟩; have LC1 := bstep LC0 LC0.size hbp; have SMp : w2.cell? ⟨w.heap.size, 0, none⟩ = some (.int .i64 x0.P) ∧ w2.cell? ⟨w.heap.size, 1, none⟩ = some (.int .i64 x0.C) ∧ w2.cell? ⟨w.heap.size, 2, none⟩ = some (.slice A0 x0.R.length c0) := ⟨(Blk.cell (Ba0.below LC1) 0 (by simp)), (Blk.cell (Ba0.below LC1) 1 (by simp)), (Blk.cell (Ba0.below LC1) 2 (by simp))⟩)
        | (go_at_call 76; refine (H2.out _ _ rdp).mono ?_; rintro e w3 ⟨ur, rfl, rdr, hbr⟩; have LC2 := bstep LC1 LC1.size hbr; have SMr : w3.cell? ⟨w.heap.size, 0, none⟩ = some (.int .i64 x0.P) ∧ w3.cell? ⟨w.heap.size, 1, none⟩ = some (.int .i64 x0.C) ∧ w3.cell? ⟨w.heap.size, 2, none⟩ = some (.slice A0 x0.R.length c0) := ⟨(Blk.cell (Ba0.below LC2) 0 (by simp)), (Blk.cell (Ba0.below LC2) 1 (by simp)), (Blk.cell (Ba0.below LC2) 2 (by simp))⟩)
        | (go_at_call 75; refine (H3.out _ _ rdr).mono ?_; rintro e w4 ⟨um, Sm, rfl, ⟨vm, Tm, rfl, om, subm, -⟩, hSm, hbm⟩; obtain ⟨Am, cm, rfl, -, -⟩ := spII.own_rd om; have LC3 := bstep LC2 LC2.size hbm; have SMm : w4.cell? ⟨w.heap.size, 0, none⟩ = some (.int .i64 x0.P) ∧ w4.cell? ⟨w.heap.size, 1, none⟩ = some (.int .i64 x0.C) ∧ w4.cell? ⟨w.heap.size, 2, none⟩ = some (.slice A0 x0.R.length c0) := ⟨(Blk.cell (Ba0.below LC3) 0 (by simp)), (Blk.cell (Ba0.below LC3) 1 (by simp)), (Blk.cell (Ba0.below LC3) 2 (by simp))⟩; have Brz := Br.below LC3; obtain ⟨blr, qr0, qr1, qr2⟩ := Brz.c3; obtain ⟨f0, f1, f2⟩ := Brz.f3))
    all_goals
      have LZ := bstep L L.size LC3
      have ltz := Br.lt
      have hq0 := LC2.size
      have hqL := L.size
      have HT : Hid (∀ k, Tm k → w.heap.size ≤ k) := Lib.hid fun k h => by have := hSm k (subm k h); omega
      have nT : ¬ Tm (w.heap.size + 1) := fun h => by have := hSm _ (subm _ h); omega
      have HO := Lib.hid om
      clear om subm hSm
      go_wp2_with (fail)
      refine bodyPost_ret (v := .tuple #[.agg #[.int .i64 x0.P, .int .i64 x0.C, .slice Am (RU).length cm], .int .i64 0]) (by simp [results, Try.results31, go_sem, blr, qr0, qr1, qr2]) rfl ?_
      rw [HER.out, HEC.out]
      refine MadeC.mat (S := Tm) rfl ?_ HT.out HCB.out ?_
      · exact spII.own_set (spII.own_set (spII.own_set (HO.out) (p := ⟨(w.heap.size + 1), 0, none⟩) nT _) (p := ⟨(w.heap.size + 1), 1, none⟩) nT _) (p := ⟨(w.heap.size + 1), 2, none⟩) nT _
      · exact (((LZ).setCell (p := ⟨(w.heap.size + 1), 0, none⟩) (by simp; try omega) _).setCell (p := ⟨(w.heap.size + 1), 1, none⟩) (by simp; try omega) _).setCell (p := ⟨(w.heap.size + 1), 2, none⟩) (by simp; try omega) _
end Go.Proofs.Ytggkoihlmijacaa
