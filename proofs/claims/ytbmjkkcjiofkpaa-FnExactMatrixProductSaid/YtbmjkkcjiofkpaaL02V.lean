/- The model's MatrixProduct. -/
import Derived.Test.YtbmjkkcjiofkpaaL02U
import Derived.Test.YtbmjkkcjiofkpaaL02L
namespace Go.Proofs.Ytbmjkkcjiofkpaa
open Go.RowKit
set_option linter.unusedVariables false
set_option linter.unusedSimpArgs false

theorem sProduct_at (p C : Int) (av bv : Value) (a b : List (List Int)) (n m : Nat) (w : World) (ha : spII.rd w av a) (hb : spII.rd w bv b) (hp1 : 2 ≤ p) (hp2 : p ≤ 7) (hav : ∀ i, i < a.length → Num.Vec p m (a.getD i [])) (hbv : ∀ i, i < b.length → Num.Vec p n (b.getD i [])) (hm : b.length = m) (hn : n ≤ 1000) (hml : m ≤ 1000) (hal : a.length ≤ 1000) (hC : C = (n : Int)) :
    Calls Try.prog 73 #[.int .i64 p, av, bv, .int .i64 C] w (Made spII (Num.prodR p a b n) w) := by
  subst hC
  exact sProduct_any p av bv a b n m w ha hb hp1 hp2 hav hbv hm hn hml hal
set_option maxRecDepth 100000 in
set_option maxHeartbeats 1000000 in
theorem sMatrixProduct_ok (v0 : Value) (x0 : Mat) (v1 : Value) (x1 : Mat) (w : World) (h0 : spMat.rd w v0 x0) (h1 : spMat.rd w v1 x1) (s0 : spMat.sz x0 ≤ 1048576) (s1 : spMat.sz x1 ≤ 1048576) : Calls Try.prog 24 #[v0, v1] w (MadeC spMat (rMatrixProduct x0 x1) (cMatrixProduct x0 x1) w) := by
  obtain ⟨A0, n0, c0, rfl, r0⟩ := spMat_form h0
  obtain ⟨rfl, -, -, -⟩ := rdII_of r0
  obtain ⟨A1, n1, c1, rfl, r1⟩ := spMat_form h1
  obtain ⟨rfl, -, -, -⟩ := rdII_of r1
  have b0 : Below w.heap.size w (((w.alloc (.cells [.int .i64 x0.P, .int .i64 x0.C, .slice A0 x0.R.length c0].toArray 26)).alloc (.cells [.int .i64 x1.P, .int .i64 x1.C, .slice A1 x1.R.length c1].toArray 26)).alloc (.cells [.int .i64 0, .int .i64 0, .slice none 0 0].toArray 26)) := by go_grown
  have Ba : Blk (((w.alloc (.cells [.int .i64 x0.P, .int .i64 x0.C, .slice A0 x0.R.length c0].toArray 26)).alloc (.cells [.int .i64 x1.P, .int .i64 x1.C, .slice A1 x1.R.length c1].toArray 26)).alloc (.cells [.int .i64 0, .int .i64 0, .slice none 0 0].toArray 26)) w.heap.size [.int .i64 x0.P, .int .i64 x0.C, .slice A0 x0.R.length c0] 26 := ((Blk.new w [.int .i64 x0.P, .int .i64 x0.C, .slice A0 x0.R.length c0] 26).alloc _).alloc _
  have Bb : Blk (((w.alloc (.cells [.int .i64 x0.P, .int .i64 x0.C, .slice A0 x0.R.length c0].toArray 26)).alloc (.cells [.int .i64 x1.P, .int .i64 x1.C, .slice A1 x1.R.length c1].toArray 26)).alloc (.cells [.int .i64 0, .int .i64 0, .slice none 0 0].toArray 26)) (w.heap.size + 1) [.int .i64 x1.P, .int .i64 x1.C, .slice A1 x1.R.length c1] 26 := by have := (Blk.new (w.alloc (.cells [.int .i64 x0.P, .int .i64 x0.C, .slice A0 x0.R.length c0].toArray 26)) [.int .i64 x1.P, .int .i64 x1.C, .slice A1 x1.R.length c1] 26).alloc (.cells [.int .i64 0, .int .i64 0, .slice none 0 0].toArray 26); rwa [World.size_alloc] at this
  have Br : Blk (((w.alloc (.cells [.int .i64 x0.P, .int .i64 x0.C, .slice A0 x0.R.length c0].toArray 26)).alloc (.cells [.int .i64 x1.P, .int .i64 x1.C, .slice A1 x1.R.length c1].toArray 26)).alloc (.cells [.int .i64 0, .int .i64 0, .slice none 0 0].toArray 26)) (w.heap.size + 1 + 1) [.int .i64 0, .int .i64 0, .slice none 0 0] 26 := by have := Blk.new ((w.alloc (.cells [.int .i64 x0.P, .int .i64 x0.C, .slice A0 x0.R.length c0].toArray 26)).alloc (.cells [.int .i64 x1.P, .int .i64 x1.C, .slice A1 x1.R.length c1].toArray 26)) [.int .i64 0, .int .i64 0, .slice none 0 0] 26; rwa [World.size_alloc, World.size_alloc] at this
  have K0 := Lib.hid (spMat.rd_below h0 b0)
  have K1 := Lib.hid (spMat.rd_below h1 b0)
  have R0 := Lib.hid (spII.rd_below r0 b0)
  have R1 := Lib.hid (spII.rd_below r1 b0)
  clear h0 h1 r0 r1
  cases hk0 : x0.ok with
  | false =>
    have eC : cMatrixProduct x0 x1 = 1 := by unfold cMatrixProduct; rw [hk0]; rfl
    have eR : rMatrixProduct x0 x1 = noMat := by unfold rMatrixProduct; rw [eC]; rfl
    rw [eR, eC]
    have HC := Lib.hid (sIsMat_no _ x0 _ K0.out hk0)
    clear eC eR
    go_enter Try.func24, Try.ntmps24
    go_wp2_with (fail)
    refine HC.out.mono ?_; rintro e w1 ⟨rfl, hb1⟩
    have L1 := bstep b0 b0.size hb1
    have Br1 := Br.below hb1
    obtain ⟨bl, q0, q1, q2⟩ := Br1.c3
    obtain ⟨f0, f1, f2⟩ := Br1.f3
    clear hb1 Ba Bb Br
    go_wp2_with (fail)
    refine bodyPost_ret (v := .tuple #[.agg #[.int .i64 0, .int .i64 0, .slice none 0 0], .int .i64 1]) (by simp [results, Try.results24, go_sem, bl, q0, q1, q2]) rfl ?_
    exact MadeC.none rfl (((L1.setCell (p := ⟨w.heap.size + 1 + 1, 0, none⟩) (by simp; omega) _).setCell (p := ⟨w.heap.size + 1 + 1, 1, none⟩) (by simp; omega) _).setCell (p := ⟨w.heap.size + 1 + 1, 2, none⟩) (by simp; omega) _)
  | true =>
    have HC := Lib.hid (sIsMat_yes _ x0 _ K0.out hk0)
    have HK0 := Lib.hid hk0
    cases hk1 : x1.ok with
    | false =>
      have eC : cMatrixProduct x0 x1 = 1 := by unfold cMatrixProduct; rw [hk0, hk1]; rfl
      have eR : rMatrixProduct x0 x1 = noMat := by unfold rMatrixProduct; rw [eC]; rfl
      rw [eR, eC]
      have HK1 := Lib.hid hk1
      clear eC eR hk0 hk1
      go_enter Try.func24, Try.ntmps24
      go_wp2_with (fail)
      refine HC.out.mono ?_; rintro e w1 ⟨rfl, hb1⟩
      have L1 := bstep b0 b0.size hb1
      have Br1 := Br.below hb1
      have Bb1 := Bb.below hb1
      obtain ⟨bl, d0, d1, d2⟩ := Bb1.c3
      have HC1 := Lib.hid (sIsMat_no _ x1 _ (spMat.rd_below K1.out hb1) HK1.out)
      clear hb1 Ba Bb Br b0
      go_wp2_with (fail)
      refine HC1.out.mono ?_; rintro e w2 ⟨rfl, hb2⟩
      have L2 := bstep L1 L1.size hb2
      have Br2 := Br1.below hb2
      obtain ⟨bl, q0, q1, q2⟩ := Br2.c3
      obtain ⟨f0, f1, f2⟩ := Br2.f3
      clear hb2 Br1 Bb1 d0 d1 d2
      go_wp2_with (fail)
      refine bodyPost_ret (v := .tuple #[.agg #[.int .i64 0, .int .i64 0, .slice none 0 0], .int .i64 1]) (by simp [results, Try.results24, go_sem, bl, q0, q1, q2]) rfl ?_
      exact MadeC.none rfl (((L2.setCell (p := ⟨w.heap.size + 1 + 1, 0, none⟩) (by simp; omega) _).setCell (p := ⟨w.heap.size + 1 + 1, 1, none⟩) (by simp; omega) _).setCell (p := ⟨w.heap.size + 1 + 1, 2, none⟩) (by simp; omega) _)
    | true =>
      have HK1 := Lib.hid hk1
      clear hk0 hk1
      go_enter Try.func24, Try.ntmps24
      go_wp2_with (fail)
      refine HC.out.mono ?_; rintro e w1 ⟨rfl, hb1⟩
      have L1 := bstep b0 b0.size hb1
      have Br1 := Br.below hb1
      have Bb1 := Bb.below hb1
      have Ba1 := Ba.below hb1
      obtain ⟨bl, d0, d1, d2⟩ := Bb1.c3
      have HC1 := Lib.hid (sIsMat_yes _ x1 _ (spMat.rd_below K1.out hb1) HK1.out)
      replace K0 := Lib.hid (spMat.rd_below K0.out hb1)
      replace K1 := Lib.hid (spMat.rd_below K1.out hb1)
      replace R0 := Lib.hid (spII.rd_below R0.out hb1)
      replace R1 := Lib.hid (spII.rd_below R1.out hb1)
      clear hb1 Ba Bb Br b0 HC
      go_wp2_with (fail)
      refine HC1.out.mono ?_; rintro e w2 ⟨rfl, hb2⟩
      have L2 := bstep L1 L1.size hb2
      have Br2 := Br1.below hb2
      have Bb2 := Bb1.below hb2
      have Ba2 := Ba1.below hb2
      replace K0 := Lib.hid (spMat.rd_below K0.out hb2)
      replace K1 := Lib.hid (spMat.rd_below K1.out hb2)
      replace R0 := Lib.hid (spII.rd_below R0.out hb2)
      replace R1 := Lib.hid (spII.rd_below R1.out hb2)
      clear hb2 Br1 Bb1 Ba1 d0 d1 d2 bl HC1 L1
      obtain ⟨bl2, d0, d1, d2⟩ := Bb2.c3
      obtain ⟨bl1, a0, a1, a2⟩ := Ba2.c3
      by_cases hPP : x0.P = x1.P
      · have tP : (x0.P != x1.P) = false := by simp [hPP]
        by_cases hCC : x0.C = (x1.R.length : Int)
        · have tC : (((x1.R.length : Int) != x0.C) = false) := by simp [hCC]
          obtain ⟨hgp, hp1, hp2, -, -, hR8, hV0⟩ := Mat.ok_out HK0.out
          obtain ⟨-, -, -, hC0, hC1, hR8', hV1⟩ := Mat.ok_out HK1.out
          have eC : cMatrixProduct x0 x1 = 0 := by unfold cMatrixProduct; rw [HK0.out, HK1.out]; simp [hPP, hCC]
          have eR : rMatrixProduct x0 x1 = ⟨x0.P, x1.C, Num.prodR x0.P x0.R x1.R x1.C.toNat⟩ := by unfold rMatrixProduct; rw [if_pos eC, ← hPP]
          have HER := Lib.hid eR
          have HEC := Lib.hid eC
          have HSZ : Hid (spII.sz (Num.prodR x0.P x0.R x1.R x1.C.toNat) ≤ 1048576) := Lib.hid (sz_bd Num.prodR_len (by rw [Num.prodR_length]; omega) (by omega))
          have HCB : Hid (spMat.cnt ⟨x0.P, x1.C, Num.prodR x0.P x0.R x1.R x1.C.toNat⟩ ≤ 1000000000) := Lib.hid (cnt_bd Num.prodR_len (by rw [Num.prodR_length]; omega) (by omega))
          have HP : Hid (∀ W, Below w2.heap.size w2 W → Calls Try.prog 73 #[.int .i64 x0.P, .slice A0 x0.R.length c0, .slice A1 x1.R.length c1, .int .i64 x1.C] W (Made spII (Num.prodR x0.P x0.R x1.R x1.C.toNat) W)) := Lib.hid fun W hW =>
            sProduct_at x0.P x1.C _ _ x0.R x1.R x1.C.toNat x0.C.toNat W (spII.rd_below R0.out hW) (spII.rd_below R1.out hW) hp1 hp2 hV0 (by rw [hPP]; exact hV1) (by omega) (by omega) (by omega) (by omega) (by omega)
          have Br3 := Br2
          have ltr := Br2.lt
          have ne1 : ¬ (w.heap.size = w.heap.size + 1 + 1) := by omega
          have ne2 : ¬ (w.heap.size + 1 + 1 = w.heap.size) := by omega
          clear eC eR hV0 hV1 hPP hCC R0 R1 K0 K1 HK0 HK1
          go_wp2_with (fail)
          go_region_held3 (fun wx => wx.cell? ⟨w.heap.size, 0, none⟩ = some (.int .i64 x0.P) ∧ wx.cell? ⟨w.heap.size, 1, none⟩ = some (.int .i64 x0.C) ∧ wx.cell? ⟨w.heap.size, 2, none⟩ = some (.slice A0 x0.R.length c0) ∧ wx.cell? ⟨w.heap.size + 1, 0, none⟩ = some (.int .i64 x1.P) ∧ wx.cell? ⟨w.heap.size + 1, 1, none⟩ = some (.int .i64 x1.C) ∧ wx.cell? ⟨w.heap.size + 1, 2, none⟩ = some (.slice A1 x1.R.length c1)) (first | go_keep | assumption) (first | (go_at_call 73; refine (HP.out _ (Below.refl _ _).drew).mono ?_; rintro e w3 ⟨u3, S3, rfl, ow3, hS3, hb3⟩; obtain ⟨A3, c3, rfl, -, -⟩ := spII.own_rd ow3; have SM3 : w3.cell? ⟨w.heap.size, 0, none⟩ = some (.int .i64 x0.P) ∧ w3.cell? ⟨w.heap.size, 1, none⟩ = some (.int .i64 x0.C) ∧ w3.cell? ⟨w.heap.size, 2, none⟩ = some (.slice A0 x0.R.length c0) ∧ w3.cell? ⟨w.heap.size + 1, 0, none⟩ = some (.int .i64 x1.P) ∧ w3.cell? ⟨w.heap.size + 1, 1, none⟩ = some (.int .i64 x1.C) ∧ w3.cell? ⟨w.heap.size + 1, 2, none⟩ = some (.slice A1 x1.R.length c1) := ⟨(Blk.cell (Ba2.drew.below hb3) 0 (by simp)), (Blk.cell (Ba2.drew.below hb3) 1 (by simp)), (Blk.cell (Ba2.drew.below hb3) 2 (by simp)), (Blk.cell (Bb2.drew.below hb3) 0 (by simp)), (Blk.cell (Bb2.drew.below hb3) 1 (by simp)), (Blk.cell (Bb2.drew.below hb3) 2 (by simp))⟩; have HO3 := Lib.hid ow3; clear ow3) | (go_at_call 54; refine (sMake_any _ _ _ _ _ (spII.own_rd HO3.out) HSZ.out).mono ?_; rintro e w4 ⟨u4, S4, rfl, ⟨v4, T4, rfl, o4, sub4, -⟩, hS4, hb4⟩; obtain ⟨A4, c4, rfl, -, -⟩ := spII.own_rd o4; have SM4 : w4.cell? ⟨w.heap.size, 0, none⟩ = some (.int .i64 x0.P) ∧ w4.cell? ⟨w.heap.size, 1, none⟩ = some (.int .i64 x0.C) ∧ w4.cell? ⟨w.heap.size, 2, none⟩ = some (.slice A0 x0.R.length c0) ∧ w4.cell? ⟨w.heap.size + 1, 0, none⟩ = some (.int .i64 x1.P) ∧ w4.cell? ⟨w.heap.size + 1, 1, none⟩ = some (.int .i64 x1.C) ∧ w4.cell? ⟨w.heap.size + 1, 2, none⟩ = some (.slice A1 x1.R.length c1) := ⟨(Blk.cell ((Ba2.drew.below hb3).below hb4) 0 (by simp)), (Blk.cell ((Ba2.drew.below hb3).below hb4) 1 (by simp)), (Blk.cell ((Ba2.drew.below hb3).below hb4) 2 (by simp)), (Blk.cell ((Bb2.drew.below hb3).below hb4) 0 (by simp)), (Blk.cell ((Bb2.drew.below hb3).below hb4) 1 (by simp)), (Blk.cell ((Bb2.drew.below hb3).below hb4) 2 (by simp))⟩; have Br4 := (Br3.drew.below hb3).below hb4; obtain ⟨blr, q0, q1, q2⟩ := Br4.c3; obtain ⟨f0, f1, f2⟩ := Br4.f3))
          all_goals
            have L4 := bstep (bstep L2.drew L2.size hb3) (by have := L2.size; have := hb3.size; have : w2.heap.size = w2.drew.heap.size := rfl; omega) hb4
            have lt3 : w.heap.size + 1 + 1 < w3.heap.size := by have := hb3.size; have : w2.heap.size = w2.drew.heap.size := rfl; omega
            have HT : Hid (∀ k, T4 k → w.heap.size ≤ k) := Lib.hid fun k h => by have := hS4 k (sub4 k h); omega
            have nT : ¬ T4 (w.heap.size + 1 + 1) := fun h => by have := hS4 _ (sub4 _ h); omega
            have HO := Lib.hid o4
            clear o4 sub4 hS4 hb4 hb3 hS3 HO3 SM3 SM4 Br3 Br4
            go_wp2_with (fail)
            refine bodyPost_ret (v := .tuple #[.agg #[.int .i64 x0.P, .int .i64 x1.C, .slice A4 (Num.prodR x0.P x0.R x1.R x1.C.toNat).length c4], .int .i64 0]) (by simp [results, Try.results24, go_sem, blr, q0, q1, q2]) rfl ?_
            rw [HER.out, HEC.out]
            refine MadeC.mat (S := T4) rfl ?_ HT.out HCB.out ?_
            · exact spII.own_set (spII.own_set (spII.own_set HO.out (p := ⟨w.heap.size + 1 + 1, 0, none⟩) nT _) (p := ⟨w.heap.size + 1 + 1, 1, none⟩) nT _) (p := ⟨w.heap.size + 1 + 1, 2, none⟩) nT _
            · exact ((L4.setCell (p := ⟨w.heap.size + 1 + 1, 0, none⟩) (by simp; omega) _).setCell (p := ⟨w.heap.size + 1 + 1, 1, none⟩) (by simp; omega) _).setCell (p := ⟨w.heap.size + 1 + 1, 2, none⟩) (by simp; omega) _
        · have tC : (((x1.R.length : Int) != x0.C) = true) := by simp; omega
          have eC : cMatrixProduct x0 x1 = 2 := by unfold cMatrixProduct; rw [HK0.out, HK1.out]; simp [hCC]
          have eR : rMatrixProduct x0 x1 = noMat := by unfold rMatrixProduct; rw [eC]; rfl
          have HER := Lib.hid eR
          have HEC := Lib.hid eC
          clear eC eR hPP hCC
          obtain ⟨blr, q0, q1, q2⟩ := Br2.c3
          obtain ⟨f0, f1, f2⟩ := Br2.f3
          go_wp2_with (fail)
          refine bodyPost_ret (v := .tuple #[.agg #[.int .i64 0, .int .i64 0, .slice none 0 0], .int .i64 2]) (by simp [results, Try.results24, go_sem, blr, q0, q1, q2]) rfl ?_
          rw [HER.out, HEC.out]
          exact MadeC.none rfl (((L2.setCell (p := ⟨w.heap.size + 1 + 1, 0, none⟩) (by simp; try omega) _).setCell (p := ⟨w.heap.size + 1 + 1, 1, none⟩) (by simp; try omega) _).setCell (p := ⟨w.heap.size + 1 + 1, 2, none⟩) (by simp; try omega) _)
      · have tP : (x0.P != x1.P) = true := by simp [hPP]
        have eC : cMatrixProduct x0 x1 = 2 := by unfold cMatrixProduct; rw [HK0.out, HK1.out]; simp [hPP]
        have eR : rMatrixProduct x0 x1 = noMat := by unfold rMatrixProduct; rw [eC]; rfl
        have HER := Lib.hid eR
        have HEC := Lib.hid eC
        clear eC eR hPP
        obtain ⟨blr, q0, q1, q2⟩ := Br2.c3
        obtain ⟨f0, f1, f2⟩ := Br2.f3
        go_wp2_with (fail)
        refine bodyPost_ret (v := .tuple #[.agg #[.int .i64 0, .int .i64 0, .slice none 0 0], .int .i64 2]) (by simp [results, Try.results24, go_sem, blr, q0, q1, q2]) rfl ?_
        rw [HER.out, HEC.out]
        exact MadeC.none rfl (((L2.setCell (p := ⟨w.heap.size + 1 + 1, 0, none⟩) (by simp; try omega) _).setCell (p := ⟨w.heap.size + 1 + 1, 1, none⟩) (by simp; try omega) _).setCell (p := ⟨w.heap.size + 1 + 1, 2, none⟩) (by simp; try omega) _)
end Go.Proofs.Ytbmjkkcjiofkpaa
