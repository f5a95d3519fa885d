/- The model's SubspaceIntersection. -/
import Derived.Test.YtggkoihlmijacaaL04Q
import Derived.Test.YtggkoihlmijacaaSz
namespace Go.Proofs.Ytggkoihlmijacaa
open Go.RowKit
set_option linter.unusedVariables false
set_option linter.unusedSimpArgs false

set_option maxRecDepth 100000 in
set_option maxHeartbeats 8000000 in
theorem sSubspaceIntersection_ok (v0 : Value) (x0 : Mat) (v1 : Value) (x1 : Mat) (w : World) (h0 : spMat.rd w v0 x0) (h1 : spMat.rd w v1 x1) (s0 : spMat.sz x0 ≤ 1048576) (s1 : spMat.sz x1 ≤ 1048576) : Calls Try.prog 26 #[v0, v1] w (MadeC spMat (rSubspaceIntersection x0 x1) (cSubspaceIntersection x0 x1) w) := by
  obtain ⟨A0, n0, c0, rfl, r0⟩ := spMat_form h0
  obtain ⟨rfl, -, -, -⟩ := rdII_of r0
  obtain ⟨A1, n1, c1, rfl, r1⟩ := spMat_form h1
  obtain ⟨rfl, -, -, -⟩ := rdII_of r1
  have L : Below w.heap.size w (((w.alloc (.cells [.int .i64 x0.P, .int .i64 x0.C, .slice A0 x0.R.length c0].toArray 27)).alloc (.cells [.int .i64 x1.P, .int .i64 x1.C, .slice A1 x1.R.length c1].toArray 27)).alloc (.cells [.int .i64 0, .int .i64 0, .slice none 0 0].toArray 27)) := by go_grown
  have Ba0 : Blk (((w.alloc (.cells [.int .i64 x0.P, .int .i64 x0.C, .slice A0 x0.R.length c0].toArray 27)).alloc (.cells [.int .i64 x1.P, .int .i64 x1.C, .slice A1 x1.R.length c1].toArray 27)).alloc (.cells [.int .i64 0, .int .i64 0, .slice none 0 0].toArray 27)) w.heap.size [.int .i64 x0.P, .int .i64 x0.C, .slice A0 x0.R.length c0] 27 := by have := ((Blk.new w [.int .i64 x0.P, .int .i64 x0.C, .slice A0 x0.R.length c0] 27).alloc (.cells [.int .i64 x1.P, .int .i64 x1.C, .slice A1 x1.R.length c1].toArray 27)).alloc (.cells [.int .i64 0, .int .i64 0, .slice none 0 0].toArray 27); simpa only [World.size_alloc] using this
  have Ba1 : Blk (((w.alloc (.cells [.int .i64 x0.P, .int .i64 x0.C, .slice A0 x0.R.length c0].toArray 27)).alloc (.cells [.int .i64 x1.P, .int .i64 x1.C, .slice A1 x1.R.length c1].toArray 27)).alloc (.cells [.int .i64 0, .int .i64 0, .slice none 0 0].toArray 27)) (w.heap.size + 1) [.int .i64 x1.P, .int .i64 x1.C, .slice A1 x1.R.length c1] 27 := by have := (Blk.new (w.alloc (.cells [.int .i64 x0.P, .int .i64 x0.C, .slice A0 x0.R.length c0].toArray 27)) [.int .i64 x1.P, .int .i64 x1.C, .slice A1 x1.R.length c1] 27).alloc (.cells [.int .i64 0, .int .i64 0, .slice none 0 0].toArray 27); simpa only [World.size_alloc] using this
  have Br : Blk (((w.alloc (.cells [.int .i64 x0.P, .int .i64 x0.C, .slice A0 x0.R.length c0].toArray 27)).alloc (.cells [.int .i64 x1.P, .int .i64 x1.C, .slice A1 x1.R.length c1].toArray 27)).alloc (.cells [.int .i64 0, .int .i64 0, .slice none 0 0].toArray 27)) (w.heap.size + 1 + 1) [.int .i64 0, .int .i64 0, .slice none 0 0] 27 := by have := Blk.new ((w.alloc (.cells [.int .i64 x0.P, .int .i64 x0.C, .slice A0 x0.R.length c0].toArray 27)).alloc (.cells [.int .i64 x1.P, .int .i64 x1.C, .slice A1 x1.R.length c1].toArray 27)) [.int .i64 0, .int .i64 0, .slice none 0 0] 27; simpa only [World.size_alloc] using this
  have K0 := Lib.hid (spMat.rd_below h0 L)
  have R0 := Lib.hid (spII.rd_below r0 L)
  clear h0 r0
  have K1 := Lib.hid (spMat.rd_below h1 L)
  have R1 := Lib.hid (spII.rd_below r1 L)
  clear h1 r1
  cases hk0 : x0.sub with
  | false =>
    have HEC : Hid (cSubspaceIntersection x0 x1 = 1) := Lib.hid (two_bad1 _ _ hk0)
    have HER : Hid (rSubspaceIntersection x0 x1 = noMat) := Lib.hid (by unfold rSubspaceIntersection; rw [if_neg (by have := HEC.out; unfold cSubspaceIntersection at this; omega)])
    have HC := Lib.hid (sIsSub_no _ x0 _ K0.out hk0)
    clear hk0
    go_enter Try.func26, Try.ntmps26
    go_wp2_with (fail)
    refine (HC.out).mono ?_; rintro e w1 ⟨rfl, hb⟩
    replace L := bstep L L.size hb
    replace Ba0 := Ba0.below hb
    replace Ba1 := Ba1.below hb
    replace Br := Br.below hb
    replace K0 := Lib.hid (spMat.rd_below K0.out hb)
    replace R0 := Lib.hid (spII.rd_below R0.out hb)
    replace K1 := Lib.hid (spMat.rd_below K1.out hb)
    replace R1 := Lib.hid (spII.rd_below R1.out hb)
    clear hb
    obtain ⟨bla0, qa00, qa01, qa02⟩ := Ba0.c3
    obtain ⟨bla1, qa10, qa11, qa12⟩ := Ba1.c3
    obtain ⟨blr, qr0, qr1, qr2⟩ := Br.c3
    obtain ⟨f0, f1, f2⟩ := Br.f3
    go_wp2_with (fail)
    refine bodyPost_ret (v := .tuple #[.agg #[.int .i64 0, .int .i64 0, .slice none 0 0], .int .i64 1]) (by simp [results, Try.results26, go_sem, bla0, qa00, qa01, qa02, bla1, qa10, qa11, qa12, blr, qr0, qr1, qr2]) rfl ?_
    rw [HER.out, HEC.out]
    exact MadeC.none rfl ((((L).setCell (p := ⟨(w.heap.size + 1 + 1), 0, none⟩) (by simp; try omega) _).setCell (p := ⟨(w.heap.size + 1 + 1), 1, none⟩) (by simp; try omega) _).setCell (p := ⟨(w.heap.size + 1 + 1), 2, none⟩) (by simp; try omega) _)
  | true =>
    have HC := Lib.hid (sIsSub_yes _ x0 _ K0.out hk0)
    cases hk1 : x1.sub with
    | false =>
      have HEC : Hid (cSubspaceIntersection x0 x1 = 1) := Lib.hid (two_bad2 _ _ hk1)
      have HER : Hid (rSubspaceIntersection x0 x1 = noMat) := Lib.hid (by unfold rSubspaceIntersection; rw [if_neg (by have := HEC.out; unfold cSubspaceIntersection at this; omega)])
      have HK1 := Lib.hid hk1
      clear hk0 hk1
      go_enter Try.func26, Try.ntmps26
      go_wp2_with (fail)
      refine (HC.out).mono ?_; rintro e w1 ⟨rfl, hb⟩
      replace L := bstep L L.size hb
      replace Ba0 := Ba0.below hb
      replace Ba1 := Ba1.below hb
      replace Br := Br.below hb
      replace K0 := Lib.hid (spMat.rd_below K0.out hb)
      replace R0 := Lib.hid (spII.rd_below R0.out hb)
      replace K1 := Lib.hid (spMat.rd_below K1.out hb)
      replace R1 := Lib.hid (spII.rd_below R1.out hb)
      clear hb
      obtain ⟨bla0, qa00, qa01, qa02⟩ := Ba0.c3
      obtain ⟨bla1, qa10, qa11, qa12⟩ := Ba1.c3
      obtain ⟨blr, qr0, qr1, qr2⟩ := Br.c3
      obtain ⟨f0, f1, f2⟩ := Br.f3
      go_wp2_with (fail)
      refine (sIsSub_no _ x1 _ K1.out HK1.out).mono ?_; rintro e w2 ⟨rfl, hb⟩
      clear bla0 qa00 qa01 qa02
      clear bla1 qa10 qa11 qa12
      clear blr qr0 qr1 qr2
      clear f0 f1 f2
      replace L := bstep L L.size hb
      replace Ba0 := Ba0.below hb
      replace Ba1 := Ba1.below hb
      replace Br := Br.below hb
      replace K0 := Lib.hid (spMat.rd_below K0.out hb)
      replace R0 := Lib.hid (spII.rd_below R0.out hb)
      replace K1 := Lib.hid (spMat.rd_below K1.out hb)
      replace R1 := Lib.hid (spII.rd_below R1.out hb)
      clear hb
      obtain ⟨bla0, qa00, qa01, qa02⟩ := Ba0.c3
      obtain ⟨bla1, qa10, qa11, qa12⟩ := Ba1.c3
      obtain ⟨blr, qr0, qr1, qr2⟩ := Br.c3
      obtain ⟨f0, f1, f2⟩ := Br.f3
      go_wp2_with (fail)
      refine bodyPost_ret (v := .tuple #[.agg #[.int .i64 0, .int .i64 0, .slice none 0 0], .int .i64 1]) (by simp [results, Try.results26, go_sem, bla0, qa00, qa01, qa02, bla1, qa10, qa11, qa12, blr, qr0, qr1, qr2]) rfl ?_
      rw [HER.out, HEC.out]
      exact MadeC.none rfl ((((L).setCell (p := ⟨(w.heap.size + 1 + 1), 0, none⟩) (by simp; try omega) _).setCell (p := ⟨(w.heap.size + 1 + 1), 1, none⟩) (by simp; try omega) _).setCell (p := ⟨(w.heap.size + 1 + 1), 2, none⟩) (by simp; try omega) _)
    | true =>
      have HK0 := Lib.hid hk0
      have HK1 := Lib.hid hk1
      by_cases hf : x0.P = x1.P ∧ x0.C = x1.C
      · obtain ⟨h1, h2, h3, h4, h5, h6, h7⟩ := Mat.sub_out hk0
        obtain ⟨k1, k2, k3, k4, k5, k6, k7⟩ := Mat.sub_out hk1
        have hc := two_yes _ _ hk0 hk1 hf
        obtain ⟨e1, e2, e3⟩ := meet_steps hc
        have hs := image_sub e2
        rw [e3] at hs
        have er : rSubspaceIntersection x0 x1 = ⟨x0.P, x0.C, Num.reduceR x0.P (Num.prodR x0.P (Num.preR x0.P x1.R x0.R x0.C.toNat) x0.R x0.C.toNat)⟩ := by unfold rSubspaceIntersection; rw [if_pos hc]
        rw [er] at hs
        have HEC : Hid (cSubspaceIntersection x0 x1 = 0) := Lib.hid hc
        have HER := Lib.hid er
        have HCB : Hid (spMat.cnt ⟨x0.P, x0.C, Num.reduceR x0.P (Num.prodR x0.P (Num.preR x0.P x1.R x0.R x0.C.toNat) x0.R x0.C.toNat)⟩ ≤ 1000000000) := Lib.hid (Mat.ok_cnt (Mat.sub_ok hs))
        have hsz : spII.sz (Num.reduceR x0.P (Num.prodR x0.P (Num.preR x0.P x1.R x0.R x0.C.toNat) x0.R x0.C.toNat)) ≤ 1048576 := Mat.ok_sz (Mat.sub_ok hs)
        have HF := Lib.hid hf
        have ev : Num.Ech x0.P x0.C.toNat x1.R := by rw [hf.1, hf.2]; exact k7
        have H1 : Hid (∀ W u v, spII.rd W u x0.R → spII.rd W v x1.R → Calls Try.prog 68 #[.int .i64 x0.P, u, v, .int .i64 x0.C] W (Made spII (Num.reduceR x0.P (Num.prodR x0.P (Num.preR x0.P x1.R x0.R x0.C.toNat) x0.R x0.C.toNat)) W)) := Lib.hid fun W u v hu hv => sMeet_any x0.P _ u v x0.R x1.R x0.C.toNat W hu hv h1 h7 ev h6 k6 (by omega) (by omega) (Mat.ok_sz (Mat.sub_ok hk0))
        have H3 : Hid (∀ W u, spII.rd W u (Num.reduceR x0.P (Num.prodR x0.P (Num.preR x0.P x1.R x0.R x0.C.toNat) x0.R x0.C.toNat)) → Calls Try.prog 61 #[.int .i64 x0.P, .int .i64 x0.C, u] W (Made spMat ⟨x0.P, x0.C, Num.reduceR x0.P (Num.prodR x0.P (Num.preR x0.P x1.R x0.R x0.C.toNat) x0.R x0.C.toNat)⟩ W)) := Lib.hid fun W u hu => sMake_any x0.P x0.C u _ W hu hsz
        have ne1 : ¬ (w.heap.size = w.heap.size + 1) := by omega
        have ne2 : ¬ (w.heap.size + 1 = w.heap.size) := by omega
        have ne3 : ¬ (w.heap.size = w.heap.size + 1 + 1) := by omega
        have ne4 : ¬ (w.heap.size + 1 = w.heap.size + 1 + 1) := by omega
        have ne5 : ¬ (w.heap.size + 1 + 1 = w.heap.size) := by omega
        have ne6 : ¬ (w.heap.size + 1 + 1 = w.heap.size + 1) := by omega
        clear hk0 hk1 hf h1 h2 h3 h4 h5 h6 h7 k1 k2 k3 k4 k5 k6 k7 hs hc e1 e2 e3 er hsz ev
        generalize Num.reduceR x0.P (Num.prodR x0.P (Num.preR x0.P x1.R x0.R x0.C.toNat) x0.R x0.C.toNat) = RE at *
        go_enter Try.func26, Try.ntmps26
        go_wp2_with (fail)
        refine (HC.out).mono ?_; rintro e w1 ⟨rfl, hb⟩
        replace L := bstep L L.size hb
        replace Ba0 := Ba0.below hb
        replace Ba1 := Ba1.below hb
        replace Br := Br.below hb
        replace K0 := Lib.hid (spMat.rd_below K0.out hb)
        replace R0 := Lib.hid (spII.rd_below R0.out hb)
        replace K1 := Lib.hid (spMat.rd_below K1.out hb)
        replace R1 := Lib.hid (spII.rd_below R1.out hb)
        clear hb
        obtain ⟨bla0, qa00, qa01, qa02⟩ := Ba0.c3
        obtain ⟨bla1, qa10, qa11, qa12⟩ := Ba1.c3
        obtain ⟨blr, qr0, qr1, qr2⟩ := Br.c3
        obtain ⟨f0, f1, f2⟩ := Br.f3
        go_wp2_with (fail)
        refine (sIsSub_yes _ x1 _ K1.out HK1.out).mono ?_; rintro e w2 ⟨rfl, hb⟩
        clear bla0 qa00 qa01 qa02
        clear bla1 qa10 qa11 qa12
        clear blr qr0 qr1 qr2
        clear f0 f1 f2
        replace L := bstep L L.size hb
        replace Ba0 := Ba0.below hb
        replace Ba1 := Ba1.below hb
        replace Br := Br.below hb
        replace K0 := Lib.hid (spMat.rd_below K0.out hb)
        replace R0 := Lib.hid (spII.rd_below R0.out hb)
        replace K1 := Lib.hid (spMat.rd_below K1.out hb)
        replace R1 := Lib.hid (spII.rd_below R1.out hb)
        clear hb
        obtain ⟨bla0, qa00, qa01, qa02⟩ := Ba0.c3
        obtain ⟨bla1, qa10, qa11, qa12⟩ := Ba1.c3
        obtain ⟨blr, qr0, qr1, qr2⟩ := Br.c3
        obtain ⟨f0, f1, f2⟩ := Br.f3
        go_wp2_with (fail)
        refine (sFit_yes _ x0 _ x1 _ K0.out K1.out HF.out).mono ?_; rintro e w3 ⟨rfl, hb⟩
        clear bla0 qa00 qa01 qa02
        clear bla1 qa10 qa11 qa12
        clear blr qr0 qr1 qr2
        clear f0 f1 f2
        replace L := bstep L L.size hb
        replace Ba0 := Ba0.below hb
        replace Ba1 := Ba1.below hb
        replace Br := Br.below hb
        replace K0 := Lib.hid (spMat.rd_below K0.out hb)
        replace R0 := Lib.hid (spII.rd_below R0.out hb)
        replace K1 := Lib.hid (spMat.rd_below K1.out hb)
        replace R1 := Lib.hid (spII.rd_below R1.out hb)
        clear hb
        obtain ⟨bla0, qa00, qa01, qa02⟩ := Ba0.c3
        obtain ⟨bla1, qa10, qa11, qa12⟩ := Ba1.c3
        obtain ⟨blr, qr0, qr1, qr2⟩ := Br.c3
        obtain ⟨f0, f1, f2⟩ := Br.f3
        have LC0 : Below w3.heap.size w3 w3.drew := (Below.refl _ _).drew
        go_wp2_with (fail)
        clear blr qr0 qr1 qr2
        clear f0 f1 f2
        go_region_held3 (fun wx => wx.cell? ⟨w.heap.size, 0, none⟩ = some (.int .i64 x0.P) ∧ wx.cell? ⟨w.heap.size, 1, none⟩ = some (.int .i64 x0.C) ∧ wx.cell? ⟨w.heap.size, 2, none⟩ = some (.slice A0 x0.R.length c0) ∧ wx.cell? ⟨(w.heap.size + 1), 0, none⟩ = some (.int .i64 x1.P) ∧ wx.cell? ⟨(w.heap.size + 1), 1, none⟩ = some (.int .i64 x1.C) ∧ wx.cell? ⟨(w.heap.size + 1), 2, none⟩ = some (.slice A1 x1.R.length c1)) (first | assumption | go_keep) (first
            | (go_at_call 68; refine (H1.out _ _ _ (spII.rd_below R0.out LC0) (spII.rd_below R1.out LC0)).mono ?_; rintro e w4 ⟨ur, Sr, rfl, owr, hSr, hbr⟩; have LC1 := bstep LC0 LC0.size hbr; have SMr : w4.cell? ⟨w.heap.size, 0, none⟩ = some (.int .i64 x0.P) ∧ w4.cell? ⟨w.heap.size, 1, none⟩ = some (.int .i64 x0.C) ∧ w4.cell? ⟨w.heap.size, 2, none⟩ = some (.slice A0 x0.R.length c0) ∧ w4.cell? ⟨(w.heap.size + 1), 0, none⟩ = some (.int .i64 x1.P) ∧ w4.cell? ⟨(w.heap.size + 1), 1, none⟩ = some (.int .i64 x1.C) ∧ w4.cell? ⟨(w.heap.size + 1), 2, none⟩ = some (.slice A1 x1.R.length c1) := ⟨(Blk.cell (Ba0.below LC1) 0 (by simp)), (Blk.cell (Ba0.below LC1) 1 (by simp)), (Blk.cell (Ba0.below LC1) 2 (by simp)), (Blk.cell (Ba1.below LC1) 0 (by simp)), (Blk.cell (Ba1.below LC1) 1 (by simp)), (Blk.cell (Ba1.below LC1) 2 (by simp))⟩)
            | (go_at_call 61; refine (H3.out _ _ (spII.own_rd owr)).mono ?_; rintro e w5 ⟨um, Sm, rfl, ⟨vm, Tm, rfl, om, subm, -⟩, hSm, hbm⟩; obtain ⟨Am, cm, rfl, -, -⟩ := spII.own_rd om; have LC2 := bstep LC1 LC1.size hbm; have SMm : w5.cell? ⟨w.heap.size, 0, none⟩ = some (.int .i64 x0.P) ∧ w5.cell? ⟨w.heap.size, 1, none⟩ = some (.int .i64 x0.C) ∧ w5.cell? ⟨w.heap.size, 2, none⟩ = some (.slice A0 x0.R.length c0) ∧ w5.cell? ⟨(w.heap.size + 1), 0, none⟩ = some (.int .i64 x1.P) ∧ w5.cell? ⟨(w.heap.size + 1), 1, none⟩ = some (.int .i64 x1.C) ∧ w5.cell? ⟨(w.heap.size + 1), 2, none⟩ = some (.slice A1 x1.R.length c1) := ⟨(Blk.cell (Ba0.below LC2) 0 (by simp)), (Blk.cell (Ba0.below LC2) 1 (by simp)), (Blk.cell (Ba0.below LC2) 2 (by simp)), (Blk.cell (Ba1.below LC2) 0 (by simp)), (Blk.cell (Ba1.below LC2) 1 (by simp)), (Blk.cell (Ba1.below LC2) 2 (by simp))⟩; have Brz := Br.below LC2; obtain ⟨blr, qr0, qr1, qr2⟩ := Brz.c3; obtain ⟨f0, f1, f2⟩ := Brz.f3))
        all_goals
          have LZ := bstep L L.size LC2
          have ltz := Br.lt
          have hq0 := LC1.size
          have hqL := L.size
          have HT : Hid (∀ k, Tm k → w.heap.size ≤ k) := Lib.hid fun k h => by have := hSm k (subm k h); omega
          have nT : ¬ Tm (w.heap.size + 1 + 1) := fun h => by have := hSm _ (subm _ h); omega
          have HO := Lib.hid om
          clear om subm hSm
          go_wp2_with (fail)
          refine bodyPost_ret (v := .tuple #[.agg #[.int .i64 x0.P, .int .i64 x0.C, .slice Am (RE).length cm], .int .i64 0]) (by simp [results, Try.results26, go_sem, blr, qr0, qr1, qr2]) rfl ?_
          rw [HER.out, HEC.out]
          refine MadeC.mat (S := Tm) rfl ?_ HT.out HCB.out ?_
          · exact spII.own_set (spII.own_set (spII.own_set (HO.out) (p := ⟨(w.heap.size + 1 + 1), 0, none⟩) nT _) (p := ⟨(w.heap.size + 1 + 1), 1, none⟩) nT _) (p := ⟨(w.heap.size + 1 + 1), 2, none⟩) nT _
          · exact (((LZ).setCell (p := ⟨(w.heap.size + 1 + 1), 0, none⟩) (by simp; try omega) _).setCell (p := ⟨(w.heap.size + 1 + 1), 1, none⟩) (by simp; try omega) _).setCell (p := ⟨(w.heap.size + 1 + 1), 2, none⟩) (by simp; try omega) _
      · have HEC : Hid (cSubspaceIntersection x0 x1 = 2) := Lib.hid (two_no _ _ hk0 hk1 hf)
        have HER : Hid (rSubspaceIntersection x0 x1 = noMat) := Lib.hid (by unfold rSubspaceIntersection; rw [if_neg (by have := HEC.out; unfold cSubspaceIntersection at this; omega)])
        have HF := Lib.hid hf
        clear hk0 hk1 hf
        go_enter Try.func26, Try.ntmps26
        go_wp2_with (fail)
        refine (HC.out).mono ?_; rintro e w1 ⟨rfl, hb⟩
        replace L := bstep L L.size hb
        replace Ba0 := Ba0.below hb
        replace Ba1 := Ba1.below hb
        replace Br := Br.below hb
        replace K0 := Lib.hid (spMat.rd_below K0.out hb)
        replace R0 := Lib.hid (spII.rd_below R0.out hb)
        replace K1 := Lib.hid (spMat.rd_below K1.out hb)
        replace R1 := Lib.hid (spII.rd_below R1.out hb)
        clear hb
        obtain ⟨bla0, qa00, qa01, qa02⟩ := Ba0.c3
        obtain ⟨bla1, qa10, qa11, qa12⟩ := Ba1.c3
        obtain ⟨blr, qr0, qr1, qr2⟩ := Br.c3
        obtain ⟨f0, f1, f2⟩ := Br.f3
        go_wp2_with (fail)
        refine (sIsSub_yes _ x1 _ K1.out HK1.out).mono ?_; rintro e w2 ⟨rfl, hb⟩
        clear bla0 qa00 qa01 qa02
        clear bla1 qa10 qa11 qa12
        clear blr qr0 qr1 qr2
        clear f0 f1 f2
        replace L := bstep L L.size hb
        replace Ba0 := Ba0.below hb
        replace Ba1 := Ba1.below hb
        replace Br := Br.below hb
        replace K0 := Lib.hid (spMat.rd_below K0.out hb)
        replace R0 := Lib.hid (spII.rd_below R0.out hb)
        replace K1 := Lib.hid (spMat.rd_below K1.out hb)
        replace R1 := Lib.hid (spII.rd_below R1.out hb)
        clear hb
        obtain ⟨bla0, qa00, qa01, qa02⟩ := Ba0.c3
        obtain ⟨bla1, qa10, qa11, qa12⟩ := Ba1.c3
        obtain ⟨blr, qr0, qr1, qr2⟩ := Br.c3
        obtain ⟨f0, f1, f2⟩ := Br.f3
        go_wp2_with (fail)
        refine (sFit_no _ x0 _ x1 _ K0.out K1.out HF.out).mono ?_; rintro e w3 ⟨rfl, hb⟩
        clear bla0 qa00 qa01 qa02
        clear bla1 qa10 qa11 qa12
        clear blr qr0 qr1 qr2
        clear f0 f1 f2
        replace L := bstep L L.size hb
        replace Ba0 := Ba0.below hb
        replace Ba1 := Ba1.below hb
        replace Br := Br.below hb
        replace K0 := Lib.hid (spMat.rd_below K0.out hb)
        replace R0 := Lib.hid (spII.rd_below R0.out hb)
        replace K1 := Lib.hid (spMat.rd_below K1.out hb)
        replace R1 := Lib.hid (spII.rd_below R1.out hb)
        clear hb
        obtain ⟨bla0, qa00, qa01, qa02⟩ := Ba0.c3
        obtain ⟨bla1, qa10, qa11, qa12⟩ := Ba1.c3
        obtain ⟨blr, qr0, qr1, qr2⟩ := Br.c3
        obtain ⟨f0, f1, f2⟩ := Br.f3
        go_wp2_with (fail)
        refine bodyPost_ret (v := .tuple #[.agg #[.int .i64 0, .int .i64 0, .slice none 0 0], .int .i64 2]) (by simp [results, Try.results26, go_sem, bla0, qa00, qa01, qa02, bla1, qa10, qa11, qa12, blr, qr0, qr1, qr2]) rfl ?_
        rw [HER.out, HEC.out]
        exact MadeC.none rfl ((((L).setCell (p := ⟨(w.heap.size + 1 + 1), 0, none⟩) (by simp; try omega) _).setCell (p := ⟨(w.heap.size + 1 + 1), 1, none⟩) (by simp; try omega) _).setCell (p := ⟨(w.heap.size + 1 + 1), 2, none⟩) (by simp; try omega) _)
end Go.Proofs.Ytggkoihlmijacaa
