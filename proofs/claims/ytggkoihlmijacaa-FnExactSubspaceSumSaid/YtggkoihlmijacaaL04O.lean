/- The program's SubspaceSum. -/
import Derived.Test.YtggkoihlmijacaaL04I
import Derived.Test.YtggkoihlmijacaaL04N
import Derived.Test.YtggkoihlmijacaaL02Z
import Derived.Test.YtggkoihlmijacaaL02D
import Derived.Test.YtggkoihlmijacaaSz
import Derived.Deep.RegionHeld3
namespace Go.Proofs.Ytggkoihlmijacaa
open Go.RowKit
set_option linter.unusedVariables false
set_option linter.unusedSimpArgs false

set_option maxRecDepth 100000 in
set_option maxHeartbeats 8000000 in
theorem iSubspaceSum_ok (v0 : Value) (x0 : Mat) (v1 : Value) (x1 : Mat) (w : World) (h0 : spMat.rd w v0 x0) (h1 : spMat.rd w v1 x1) (s0 : spMat.sz x0 ≤ 1048576) (s1 : spMat.sz x1 ≤ 1048576) : Calls Try.prog 23 #[v0, v1] w (MadeC spMat (rSubspaceSum x0 x1) (cSubspaceSum x0 x1) w) := by
  obtain ⟨A0, n0, c0, rfl, r0⟩ := spMat_form h0
  obtain ⟨rfl, -, -, -⟩ := rdII_of r0
  obtain ⟨A1, n1, c1, rfl, r1⟩ := spMat_form h1
  obtain ⟨rfl, -, -, -⟩ := rdII_of r1
  have L : Below w.heap.size w (((w.alloc (.cells [.int .i64 x0.P, .int .i64 x0.C, .slice A0 x0.R.length c0].toArray 27)).alloc (.cells [.int .i64 x1.P, .int .i64 x1.C, .slice A1 x1.R.length c1].toArray 27)).alloc (.cells [.int .i64 0, .int .i64 0, .slice none 0 0].toArray 27)) := by go_grown
  have Ba0 : Blk (((w.alloc (.cells [.int .i64 x0.P, .int .i64 x0.C, .slice A0 x0.R.length c0].toArray 27)).alloc (.cells [.int .i64 x1.P, .int .i64 x1.C, .slice A1 x1.R.length c1].toArray 27)).alloc (.cells [.int .i64 0, .int .i64 0, .slice none 0 0].toArray 27)) w.heap.size [.int .i64 x0.P, .int .i64 x0.C, .slice A0 x0.R.length c0] 27 := by have := ((Blk.new w [.int .i64 x0.P, .int .i64 x0.C, .slice A0 x0.R.length c0] 27).alloc (.cells [.int .i64 x1.P, .int .i64 x1.C, .slice A1 x1.R.length c1].toArray 27)).alloc (.cells [.int .i64 0, .int .i64 0, .slice none 0 0].toArray 27); simpa only [World.size_alloc] using this
  have Ba1 : Blk (((w.alloc (.cells [.int .i64 x0.P, .int .i64 x0.C, .slice A0 x0.R.length c0].toArray 27)).alloc (.cells [.int .i64 x1.P, .int .i64 x1.C, .slice A1 x1.R.length c1].toArray 27)).alloc (.cells [.int .i64 0, .int .i64 0, .slice none 0 0].toArray 27)) (w.heap.size + 1) [.int .i64 x1.P, .int .i64 x1.C, .slice A1 x1.R.length c1] 27 := by have := (Blk.new (w.alloc (.cells [.int .i64 x0.P, .int .i64 x0.C, .slice A0 x0.R.length c0].toArray 27)) [.int .i64 x1.P, .int .i64 x1.C, .slice A1 x1.R.length c1] 27).alloc (.cells [.int .i64 0, .int .i64 0, .slice none 0 0].toArray 27); simpa only [World.size_alloc] using this
  have Br : Blk (((w.alloc (.cells [.int .i64 x0.P, .int .i64 x0.C, .slice A0 x0.R.length c0].toArray 27)).alloc (.cells [.int .i64 x1.P, .int .i64 x1.C, .slice A1 x1.R.length c1].toArray 27)).alloc (.cells [.int .i64 0, .int .i64 0, .slice none 0 0].toArray 27)) (w.heap.size + 1 + 1) [.int .i64 0, .int .i64 0, .slice none 0 0] 27 := by have := Blk.new ((w.alloc (.cells [.int .i64 x0.P, .int .i64 x0.C, .slice A0 x0.R.length c0].toArray 27)).alloc (.cells [.int .i64 x1.P, .int .i64 x1.C, .slice A1 x1.R.length c1].toArray 27)) [.int .i64 0, .int .i64 0, .slice none 0 0] 27; simpa only [World.size_alloc] using this
  have K0 := Lib.hid (spMat.rd_below h0 L)
  have R0 := Lib.hid (spII.rd_below r0 L)
  clear h0 r0
  have K1 := Lib.hid (spMat.rd_below h1 L)
  have R1 := Lib.hid (spII.rd_below r1 L)
  clear h1 r1
  have HC0 := subspacesCode_ok _ x0 _ x1 _ K0.out K1.out
  by_cases hc : x0.two x1 = 0
  · rw [hc] at HC0
    have HC := Lib.hid HC0
    clear HC0
    obtain ⟨t1, t2, t3, t4⟩ := two_out hc
    obtain ⟨h1, h2, h3, h4, h5, h6, h7⟩ := Mat.sub_out t1
    obtain ⟨k1, k2, k3, k4, k5, k6, k7⟩ := Mat.sub_out t2
    have hv : Num.Vecs x0.P x0.C.toNat (x0.R ++ x1.R) := Num.vecs_app h7.vecs (by rw [t3, t4]; exact k7.vecs)
    have HEC : Hid (cSubspaceSum x0 x1 = 0) := Lib.hid hc
    have HER : Hid (rSubspaceSum x0 x1 = ⟨x0.P, x0.C, Num.reduceR x0.P (x0.R ++ x1.R)⟩) := Lib.hid (by unfold rSubspaceSum; rw [if_pos hc])
    have hs := Mat.sub_of h1 h4 h5 (Num.ech_reduce_all h1 fun i hi => hv.at_ hi)
    have HCB : Hid (spMat.cnt ⟨x0.P, x0.C, Num.reduceR x0.P (x0.R ++ x1.R)⟩ ≤ 1000000000) := Lib.hid (Mat.ok_cnt (Mat.sub_ok hs))
    have hrl : (Num.reduceR x0.P (x0.R ++ x1.R)).length ≤ 8 := (Mat.ok_out (Mat.sub_ok hs)).2.2.2.2.2.1
    have hrv := (Mat.ok_out (Mat.sub_ok hs)).2.2.2.2.2.2
    dsimp only at hrv
    have H1 : Hid (∀ W u, spMat.rd W u x0 → Calls Try.prog 48 #[u] W (Made (spRR x0.P) x0.R W)) := Lib.hid fun W u hu => rowsOf_any u x0 W hu (Mat.sub_ok t1)
    have H2 : Hid (∀ W u, spMat.rd W u x1 → Calls Try.prog 48 #[u] W (Made (spRR x0.P) x1.R W)) := Lib.hid fun W u hu => by
      have := rowsOf_any u x1 W hu (Mat.sub_ok t2)
      rwa [← t3] at this
    have H3 : Hid (∀ W u v g, (spRR x0.P).rd W u x0.R → (spRR x0.P).rd W v x1.R → W.cell? ⟨g, 0, none⟩ = some u → W.cell? ⟨g, 1, none⟩ = some v → Calls Try.prog 64 #[.slice (some ⟨g, 0, none⟩) 2 2] W fun e w' => ∃ v, e = .returned v ∧ (spRR x0.P).rd w' v (x0.R ++ x1.R) ∧ Below W.heap.size W w') := Lib.hid fun W u v g hu hv e1 e2 => concatRR_any x0.P u v x0.R x1.R g W hu hv (by omega) e1 e2
    have H4 : Hid (∀ W u, (spRR x0.P).rd W u (x0.R ++ x1.R) → Calls Try.prog 50 #[u] W (Made (spRR x0.P) (Num.reduceR x0.P (x0.R ++ x1.R)) W)) := Lib.hid fun W u hu => reduced_any x0.P x0.C.toNat u _ W hu h1 (fun i hi => hv.at_ hi) (by omega) (by rw [List.length_append]; omega)
    have H5 : Hid (∀ W u, (spRR x0.P).rd W u (Num.reduceR x0.P (x0.R ++ x1.R)) → Calls Try.prog 65 #[.int .i64 x0.P, .int .i64 x0.C, u] W (Made spMat ⟨x0.P, x0.C, Num.reduceR x0.P (x0.R ++ x1.R)⟩ W)) := Lib.hid fun W u hu => matrixOf_any x0.P x0.C u _ W hu (by omega) (fun j hj => by have := (hrv j hj).len; omega)
    have ne1 : ¬ (w.heap.size = w.heap.size + 1) := by omega
    have ne2 : ¬ (w.heap.size + 1 = w.heap.size) := by omega
    have ne3 : ¬ (w.heap.size = w.heap.size + 1 + 1) := by omega
    have ne4 : ¬ (w.heap.size + 1 = w.heap.size + 1 + 1) := by omega
    have ne5 : ¬ (w.heap.size + 1 + 1 = w.heap.size) := by omega
    have ne6 : ¬ (w.heap.size + 1 + 1 = w.heap.size + 1) := by omega
    clear t1 t2 t3 t4 h1 h2 h3 h4 h5 h6 h7 k1 k2 k3 k4 k5 k6 k7 hv hs hrl hrv hc
    generalize Num.reduceR x0.P (x0.R ++ x1.R) = RE at *
    go_enter Try.func23, Try.ntmps23
    go_wp2_with (fail)
    refine (HC.out).mono ?_; rintro e w1 ⟨rfl, hb⟩
    replace L := bstep L L.size hb
    replace Ba0 := Ba0.below hb
    replace Ba1 := Ba1.below hb
    replace Br := Br.below hb
    replace K0 := Lib.hid (spMat.rd_below K0.out hb)
    replace R0 := Lib.hid (spII.rd_below R0.out hb)
    replace K1 := Lib.hid (spMat.rd_below K1.out hb)
    replace R1 := Lib.hid (spII.rd_below R1.out hb)
    clear hb
    obtain ⟨bla0, qa00, qa01, qa02⟩ := Ba0.c3
    obtain ⟨bla1, qa10, qa11, qa12⟩ := Ba1.c3
    obtain ⟨blr, qr0, qr1, qr2⟩ := Br.c3
    obtain ⟨f0, f1, f2⟩ := Br.f3
    have LC0 : Below w1.heap.size w1 w1.drew := (Below.refl _ _).drew
    go_wp2_with (fail)
    clear blr qr0 qr1 qr2
    clear f0 f1 f2
    go_region_held3 (fun wx => wx.cell? ⟨w.heap.size, 0, none⟩ = some (.int .i64 x0.P) ∧ wx.cell? ⟨w.heap.size, 1, none⟩ = some (.int .i64 x0.C) ∧ wx.cell? ⟨w.heap.size, 2, none⟩ = some (.slice A0 x0.R.length c0) ∧ wx.cell? ⟨(w.heap.size + 1), 0, none⟩ = some (.int .i64 x1.P) ∧ wx.cell? ⟨(w.heap.size + 1), 1, none⟩ = some (.int .i64 x1.C) ∧ wx.cell? ⟨(w.heap.size + 1), 2, none⟩ = some (.slice A1 x1.R.length c1)) (first | assumption | go_keep) (first
        | (go_at_call 48; refine (H2.out _ _ (spMat.rd_below K1.out LC1)).mono ?_; rintro e w3 ⟨uq, Sq, rfl, owq, hSq, hbq⟩; have LC2 := bstep LC1 LC1.size hbq; obtain ⟨Aq, cq, rfl, -, -⟩ := (spRR x0.P).own_rd owq; have SMq : w3.cell? ⟨w.heap.size, 0, none⟩ = some (.int .i64 x0.P) ∧ w3.cell? ⟨w.heap.size, 1, none⟩ = some (.int .i64 x0.C) ∧ w3.cell? ⟨w.heap.size, 2, none⟩ = some (.slice A0 x0.R.length c0) ∧ w3.cell? ⟨(w.heap.size + 1), 0, none⟩ = some (.int .i64 x1.P) ∧ w3.cell? ⟨(w.heap.size + 1), 1, none⟩ = some (.int .i64 x1.C) ∧ w3.cell? ⟨(w.heap.size + 1), 2, none⟩ = some (.slice A1 x1.R.length c1) := ⟨(Blk.cell (Ba0.below LC2) 0 (by simp)), (Blk.cell (Ba0.below LC2) 1 (by simp)), (Blk.cell (Ba0.below LC2) 2 (by simp)), (Blk.cell (Ba1.below LC2) 0 (by simp)), (Blk.cell (Ba1.below LC2) 1 (by simp)), (Blk.cell (Ba1.below LC2) 2 (by simp))⟩; have hal : Below w3.heap.size w3 (w3.alloc (.cells #[.slice Ap x0.R.length cp, .slice Aq x1.R.length cq] 51)) := (Below.refl _ _).alloc (Nat.le_refl _) _; have BK := Blk.new w3 [.slice Ap x0.R.length cp, .slice Aq x1.R.length cq] 51; obtain ⟨k0, k1, k2⟩ := BK.c2; have KP := Lib.hid ((spRR x0.P).rd_below ((spRR x0.P).rd_below ((spRR x0.P).own_rd owp) hbq) hal); have KQ := Lib.hid ((spRR x0.P).rd_below ((spRR x0.P).own_rd owq) hal); have LC3 := bstep LC2 LC2.size hal; have SMa : (w3.alloc (.cells #[.slice Ap x0.R.length cp, .slice Aq x1.R.length cq] 51)).cell? ⟨w.heap.size, 0, none⟩ = some (.int .i64 x0.P) ∧ (w3.alloc (.cells #[.slice Ap x0.R.length cp, .slice Aq x1.R.length cq] 51)).cell? ⟨w.heap.size, 1, none⟩ = some (.int .i64 x0.C) ∧ (w3.alloc (.cells #[.slice Ap x0.R.length cp, .slice Aq x1.R.length cq] 51)).cell? ⟨w.heap.size, 2, none⟩ = some (.slice A0 x0.R.length c0) ∧ (w3.alloc (.cells #[.slice Ap x0.R.length cp, .slice Aq x1.R.length cq] 51)).cell? ⟨(w.heap.size + 1), 0, none⟩ = some (.int .i64 x1.P) ∧ (w3.alloc (.cells #[.slice Ap x0.R.length cp, .slice Aq x1.R.length cq] 51)).cell? ⟨(w.heap.size + 1), 1, none⟩ = some (.int .i64 x1.C) ∧ (w3.alloc (.cells #[.slice Ap x0.R.length cp, .slice Aq x1.R.length cq] 51)).cell? ⟨(w.heap.size + 1), 2, none⟩ = some (.slice A1 x1.R.length c1) := ⟨(Blk.cell (Ba0.below LC3) 0 (by simp)), (Blk.cell (Ba0.below LC3) 1 (by simp)), (Blk.cell (Ba0.below LC3) 2 (by simp)), (Blk.cell (Ba1.below LC3) 0 (by simp)), (Blk.cell (Ba1.below LC3) 1 (by simp)), (Blk.cell (Ba1.below LC3) 2 (by simp))⟩)
        | (go_at_call 48; refine (H1.out _ _ (spMat.rd_below K0.out LC0)).mono ?_; rintro e w2 ⟨up, Sp_, rfl, owp, hSp, hbp⟩; have LC1 := bstep LC0 LC0.size hbp; obtain ⟨Ap, cp, rfl, -, -⟩ := (spRR x0.P).own_rd owp; have SMp : w2.cell? ⟨w.heap.size, 0, none⟩ = some (.int .i64 x0.P) ∧ w2.cell? ⟨w.heap.size, 1, none⟩ = some (.int .i64 x0.C) ∧ w2.cell? ⟨w.heap.size, 2, none⟩ = some (.slice A0 x0.R.length c0) ∧ w2.cell? ⟨(w.heap.size + 1), 0, none⟩ = some (.int .i64 x1.P) ∧ w2.cell? ⟨(w.heap.size + 1), 1, none⟩ = some (.int .i64 x1.C) ∧ w2.cell? ⟨(w.heap.size + 1), 2, none⟩ = some (.slice A1 x1.R.length c1) := ⟨(Blk.cell (Ba0.below LC1) 0 (by simp)), (Blk.cell (Ba0.below LC1) 1 (by simp)), (Blk.cell (Ba0.below LC1) 2 (by simp)), (Blk.cell (Ba1.below LC1) 0 (by simp)), (Blk.cell (Ba1.below LC1) 1 (by simp)), (Blk.cell (Ba1.below LC1) 2 (by simp))⟩)
        | (go_at_call 64; refine (H3.out _ _ _ _ KP.out KQ.out k1 k2).mono ?_; rintro e w4 ⟨uc, rfl, rdc, hbc⟩; have LC4 := bstep LC3 LC3.size hbc; have HRC := Lib.hid rdc; obtain ⟨Ac, cc, hca, -, -⟩ := rdc; rw [List.length_append] at hca; subst hca; have SMc : w4.cell? ⟨w.heap.size, 0, none⟩ = some (.int .i64 x0.P) ∧ w4.cell? ⟨w.heap.size, 1, none⟩ = some (.int .i64 x0.C) ∧ w4.cell? ⟨w.heap.size, 2, none⟩ = some (.slice A0 x0.R.length c0) ∧ w4.cell? ⟨(w.heap.size + 1), 0, none⟩ = some (.int .i64 x1.P) ∧ w4.cell? ⟨(w.heap.size + 1), 1, none⟩ = some (.int .i64 x1.C) ∧ w4.cell? ⟨(w.heap.size + 1), 2, none⟩ = some (.slice A1 x1.R.length c1) := ⟨(Blk.cell (Ba0.below LC4) 0 (by simp)), (Blk.cell (Ba0.below LC4) 1 (by simp)), (Blk.cell (Ba0.below LC4) 2 (by simp)), (Blk.cell (Ba1.below LC4) 0 (by simp)), (Blk.cell (Ba1.below LC4) 1 (by simp)), (Blk.cell (Ba1.below LC4) 2 (by simp))⟩))
    replace L := bstep L L.size LC4
    replace Ba0 := Ba0.below LC4
    replace Ba1 := Ba1.below LC4
    replace Br := Br.below LC4
    replace K0 := Lib.hid (spMat.rd_below K0.out LC4)
    replace R0 := Lib.hid (spII.rd_below R0.out LC4)
    replace K1 := Lib.hid (spMat.rd_below K1.out LC4)
    replace R1 := Lib.hid (spII.rd_below R1.out LC4)
    clear LC0 LC1 LC2 LC3 LC4 hbp hbq hbc hal BK k0 k1 k2 KP KQ SMp SMq SMa SMc owp owq hSp hSq H1 H2 H3
    obtain ⟨bla0, qa00, qa01, qa02⟩ := Ba0.c3
    obtain ⟨bla1, qa10, qa11, qa12⟩ := Ba1.c3
    obtain ⟨blr, qr0, qr1, qr2⟩ := Br.c3
    obtain ⟨f0, f1, f2⟩ := Br.f3
    have LC0 : Below w4.heap.size w4 w4.drew := (Below.refl _ _).drew
    go_wp2_with (fail)
    clear bla1 qa10 qa11 qa12
    clear blr qr0 qr1 qr2
    clear f0 f1 f2
    go_region_held3 (fun wx => wx.cell? ⟨w.heap.size, 0, none⟩ = some (.int .i64 x0.P) ∧ wx.cell? ⟨w.heap.size, 1, none⟩ = some (.int .i64 x0.C) ∧ wx.cell? ⟨w.heap.size, 2, none⟩ = some (.slice A0 x0.R.length c0)) (first | assumption | go_keep) (first
        | (go_at_call 50; refine (H4.out _ _ ((spRR x0.P).rd_below HRC.out LC0)).mono ?_; rintro e w5 ⟨ur, Sr, rfl, owr, hSr, hbr⟩; have LC1 := bstep LC0 LC0.size hbr; have SMr : w5.cell? ⟨w.heap.size, 0, none⟩ = some (.int .i64 x0.P) ∧ w5.cell? ⟨w.heap.size, 1, none⟩ = some (.int .i64 x0.C) ∧ w5.cell? ⟨w.heap.size, 2, none⟩ = some (.slice A0 x0.R.length c0) := ⟨(Blk.cell (Ba0.below LC1) 0 (by simp)), (Blk.cell (Ba0.below LC1) 1 (by simp)), (Blk.cell (Ba0.below LC1) 2 (by simp))⟩)
        | (go_at_call 65; refine (H5.out _ _ ((spRR x0.P).own_rd owr)).mono ?_; rintro e w6 ⟨um, Sm, rfl, ⟨vm, Tm, rfl, om, subm, -⟩, hSm, hbm⟩; obtain ⟨Am, cm, rfl, -, -⟩ := spII.own_rd om; have LC2 := bstep LC1 LC1.size hbm; have SMm : w6.cell? ⟨w.heap.size, 0, none⟩ = some (.int .i64 x0.P) ∧ w6.cell? ⟨w.heap.size, 1, none⟩ = some (.int .i64 x0.C) ∧ w6.cell? ⟨w.heap.size, 2, none⟩ = some (.slice A0 x0.R.length c0) := ⟨(Blk.cell (Ba0.below LC2) 0 (by simp)), (Blk.cell (Ba0.below LC2) 1 (by simp)), (Blk.cell (Ba0.below LC2) 2 (by simp))⟩; have Brz := Br.below LC2; obtain ⟨blr, qr0, qr1, qr2⟩ := Brz.c3; obtain ⟨f0, f1, f2⟩ := Brz.f3))
    all_goals
      have LZ := bstep L L.size LC2
      have ltz := Br.lt
      have hq0 := LC1.size
      have hqL := L.size
      have HT : Hid (∀ k, Tm k → w.heap.size ≤ k) := Lib.hid fun k h => by have := hSm k (subm k h); omega
      have nT : ¬ Tm (w.heap.size + 1 + 1) := fun h => by have := hSm _ (subm _ h); omega
      have HO := Lib.hid om
      clear om subm hSm
      go_wp2_with (fail)
      refine bodyPost_ret (v := .tuple #[.agg #[.int .i64 x0.P, .int .i64 x0.C, .slice Am (RE).length cm], .int .i64 0]) (by simp [results, Try.results23, go_sem, blr, qr0, qr1, qr2]) rfl ?_
      rw [HER.out, HEC.out]
      refine MadeC.mat (S := Tm) rfl ?_ HT.out HCB.out ?_
      · exact spII.own_set (spII.own_set (spII.own_set (HO.out) (p := ⟨(w.heap.size + 1 + 1), 0, none⟩) nT _) (p := ⟨(w.heap.size + 1 + 1), 1, none⟩) nT _) (p := ⟨(w.heap.size + 1 + 1), 2, none⟩) nT _
      · exact (((LZ).setCell (p := ⟨(w.heap.size + 1 + 1), 0, none⟩) (by simp; try omega) _).setCell (p := ⟨(w.heap.size + 1 + 1), 1, none⟩) (by simp; try omega) _).setCell (p := ⟨(w.heap.size + 1 + 1), 2, none⟩) (by simp; try omega) _
  · have HEC : Hid (cSubspaceSum x0 x1 = x0.two x1) := Lib.hid rfl
    have HER : Hid (rSubspaceSum x0 x1 = noMat) := Lib.hid (by unfold rSubspaceSum; rw [if_neg hc])
    have HC := Lib.hid HC0
    have hcb : (x0.two x1 == 0) = false := by simpa using hc
    have hcn : (x0.two x1 != 0) = true := by simpa using hc
    clear HC0 hc
    generalize x0.two x1 = q at *
    go_enter Try.func23, Try.ntmps23
    go_wp2_with (fail)
    refine (HC.out).mono ?_; rintro e w1 ⟨rfl, hb⟩
    replace L := bstep L L.size hb
    replace Ba0 := Ba0.below hb
    replace Ba1 := Ba1.below hb
    replace Br := Br.below hb
    replace K0 := Lib.hid (spMat.rd_below K0.out hb)
    replace R0 := Lib.hid (spII.rd_below R0.out hb)
    replace K1 := Lib.hid (spMat.rd_below K1.out hb)
    replace R1 := Lib.hid (spII.rd_below R1.out hb)
    clear hb
    obtain ⟨bla0, qa00, qa01, qa02⟩ := Ba0.c3
    obtain ⟨bla1, qa10, qa11, qa12⟩ := Ba1.c3
    obtain ⟨blr, qr0, qr1, qr2⟩ := Br.c3
    obtain ⟨f0, f1, f2⟩ := Br.f3
    go_wp2_with (fail)
    refine bodyPost_ret (v := .tuple #[.agg #[.int .i64 0, .int .i64 0, .slice none 0 0], .int .i64 q]) (by simp [results, Try.results23, go_sem, bla0, qa00, qa01, qa02, bla1, qa10, qa11, qa12, blr, qr0, qr1, qr2]) rfl ?_
    rw [HER.out, HEC.out]
    exact MadeC.none rfl ((((L).setCell (p := ⟨(w.heap.size + 1 + 1), 0, none⟩) (by simp; try omega) _).setCell (p := ⟨(w.heap.size + 1 + 1), 1, none⟩) (by simp; try omega) _).setCell (p := ⟨(w.heap.size + 1 + 1), 2, none⟩) (by simp; try omega) _)
end Go.Proofs.Ytggkoihlmijacaa
