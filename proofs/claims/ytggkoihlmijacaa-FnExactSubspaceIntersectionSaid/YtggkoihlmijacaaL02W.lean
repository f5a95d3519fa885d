/- The program's MatrixProduct. -/
import Derived.Test.YtggkoihlmijacaaL02R
import Derived.Test.YtggkoihlmijacaaL02Q
import Derived.Test.YtggkoihlmijacaaL02V
import Derived.Test.YtggkoihlmijacaaL02D
namespace Go.Proofs.Ytggkoihlmijacaa
open Go.RowKit
set_option linter.unusedVariables false
set_option linter.unusedSimpArgs false

theorem Num.prodR_upto (p : Int) (a b : List (List Int)) (n : Nat) : Num.uptoL (fun k => Num.timesV p (a.getD k []) b n) a 0 a.length = Num.prodR p a b n :=
  Num.ext_getD [] (by rw [Num.uptoL_length, Num.prodR_length]) fun i hi => by
    rw [Num.uptoL_length] at hi
    rw [Num.uptoL_get _ _ _ _ hi, if_pos (by omega), Num.prodR_get hi]
set_option maxRecDepth 100000 in
set_option maxHeartbeats 1000000 in
theorem iMatrixProduct_ok (v0 : Value) (x0 : Mat) (v1 : Value) (x1 : Mat) (w : World) (h0 : spMat.rd w v0 x0) (h1 : spMat.rd w v1 x1) (s0 : spMat.sz x0 ≤ 1048576) (s1 : spMat.sz x1 ≤ 1048576) : Calls Try.prog 79 #[v0, v1] w (MadeC spMat (rMatrixProduct x0 x1) (cMatrixProduct x0 x1) w) := by
  obtain ⟨A0, n0, c0, rfl, r0⟩ := spMat_form h0
  obtain ⟨rfl, -, -, -⟩ := rdII_of r0
  obtain ⟨A1, n1, c1, rfl, r1⟩ := spMat_form h1
  obtain ⟨rfl, -, -, -⟩ := rdII_of r1
  have b0 : Below w.heap.size w (((w.alloc (.cells [.int .i64 x0.P, .int .i64 x0.C, .slice A0 x0.R.length c0].toArray 27)).alloc (.cells [.int .i64 x1.P, .int .i64 x1.C, .slice A1 x1.R.length c1].toArray 27)).alloc (.cells [.int .i64 0, .int .i64 0, .slice none 0 0].toArray 27)) := by go_grown
  have Ba : Blk (((w.alloc (.cells [.int .i64 x0.P, .int .i64 x0.C, .slice A0 x0.R.length c0].toArray 27)).alloc (.cells [.int .i64 x1.P, .int .i64 x1.C, .slice A1 x1.R.length c1].toArray 27)).alloc (.cells [.int .i64 0, .int .i64 0, .slice none 0 0].toArray 27)) w.heap.size [.int .i64 x0.P, .int .i64 x0.C, .slice A0 x0.R.length c0] 27 := ((Blk.new w [.int .i64 x0.P, .int .i64 x0.C, .slice A0 x0.R.length c0] 27).alloc _).alloc _
  have Bb : Blk (((w.alloc (.cells [.int .i64 x0.P, .int .i64 x0.C, .slice A0 x0.R.length c0].toArray 27)).alloc (.cells [.int .i64 x1.P, .int .i64 x1.C, .slice A1 x1.R.length c1].toArray 27)).alloc (.cells [.int .i64 0, .int .i64 0, .slice none 0 0].toArray 27)) (w.heap.size + 1) [.int .i64 x1.P, .int .i64 x1.C, .slice A1 x1.R.length c1] 27 := by have := (Blk.new (w.alloc (.cells [.int .i64 x0.P, .int .i64 x0.C, .slice A0 x0.R.length c0].toArray 27)) [.int .i64 x1.P, .int .i64 x1.C, .slice A1 x1.R.length c1] 27).alloc (.cells [.int .i64 0, .int .i64 0, .slice none 0 0].toArray 27); rwa [World.size_alloc] at this
  have Br : Blk (((w.alloc (.cells [.int .i64 x0.P, .int .i64 x0.C, .slice A0 x0.R.length c0].toArray 27)).alloc (.cells [.int .i64 x1.P, .int .i64 x1.C, .slice A1 x1.R.length c1].toArray 27)).alloc (.cells [.int .i64 0, .int .i64 0, .slice none 0 0].toArray 27)) (w.heap.size + 1 + 1) [.int .i64 0, .int .i64 0, .slice none 0 0] 27 := by have := Blk.new ((w.alloc (.cells [.int .i64 x0.P, .int .i64 x0.C, .slice A0 x0.R.length c0].toArray 27)).alloc (.cells [.int .i64 x1.P, .int .i64 x1.C, .slice A1 x1.R.length c1].toArray 27)) [.int .i64 0, .int .i64 0, .slice none 0 0] 27; rwa [World.size_alloc, World.size_alloc] at this
  have K0 := Lib.hid (spMat.rd_below h0 b0)
  have K1 := Lib.hid (spMat.rd_below h1 b0)
  have R0 := Lib.hid (spII.rd_below r0 b0)
  have R1 := Lib.hid (spII.rd_below r1 b0)
  clear h0 h1 r0 r1
  cases hk0 : x0.ok with
  | false =>
    have eC : cMatrixProduct x0 x1 = 1 := by unfold cMatrixProduct; rw [hk0]; rfl
    have eR : rMatrixProduct x0 x1 = noMat := by unfold rMatrixProduct; rw [eC]; rfl
    rw [eR, eC]
    have HC := Lib.hid (isMat_no _ x0 _ K0.out hk0)
    clear eC eR
    go_enter Try.func79, Try.ntmps79
    go_wp2_with (fail)
    refine HC.out.mono ?_; rintro e w1 ⟨rfl, hb1⟩
    have L1 := bstep b0 b0.size hb1
    have Br1 := Br.below hb1
    obtain ⟨bl, q0, q1, q2⟩ := Br1.c3
    obtain ⟨f0, f1, f2⟩ := Br1.f3
    clear hb1 Ba Bb Br
    go_wp2_with (fail)
    refine bodyPost_ret (v := .tuple #[.agg #[.int .i64 0, .int .i64 0, .slice none 0 0], .int .i64 1]) (by simp [results, Try.results79, go_sem, bl, q0, q1, q2]) rfl ?_
    exact MadeC.none rfl (((L1.setCell (p := ⟨w.heap.size + 1 + 1, 0, none⟩) (by simp; omega) _).setCell (p := ⟨w.heap.size + 1 + 1, 1, none⟩) (by simp; omega) _).setCell (p := ⟨w.heap.size + 1 + 1, 2, none⟩) (by simp; omega) _)
  | true =>
    have HC := Lib.hid (isMat_yes _ x0 _ K0.out hk0)
    have HK0 := Lib.hid hk0
    cases hk1 : x1.ok with
    | false =>
      have eC : cMatrixProduct x0 x1 = 1 := by unfold cMatrixProduct; rw [hk0, hk1]; rfl
      have eR : rMatrixProduct x0 x1 = noMat := by unfold rMatrixProduct; rw [eC]; rfl
      rw [eR, eC]
      have HK1 := Lib.hid hk1
      clear eC eR hk0 hk1
      go_enter Try.func79, Try.ntmps79
      go_wp2_with (fail)
      refine HC.out.mono ?_; rintro e w1 ⟨rfl, hb1⟩
      have L1 := bstep b0 b0.size hb1
      have Br1 := Br.below hb1
      have Bb1 := Bb.below hb1
      obtain ⟨bl, d0, d1, d2⟩ := Bb1.c3
      have HC1 := Lib.hid (isMat_no _ x1 _ (spMat.rd_below K1.out hb1) HK1.out)
      clear hb1 Ba Bb Br b0
      go_wp2_with (fail)
      refine HC1.out.mono ?_; rintro e w2 ⟨rfl, hb2⟩
      have L2 := bstep L1 L1.size hb2
      have Br2 := Br1.below hb2
      obtain ⟨bl, q0, q1, q2⟩ := Br2.c3
      obtain ⟨f0, f1, f2⟩ := Br2.f3
      clear hb2 Br1 Bb1 d0 d1 d2
      go_wp2_with (fail)
      refine bodyPost_ret (v := .tuple #[.agg #[.int .i64 0, .int .i64 0, .slice none 0 0], .int .i64 1]) (by simp [results, Try.results79, go_sem, bl, q0, q1, q2]) rfl ?_
      exact MadeC.none rfl (((L2.setCell (p := ⟨w.heap.size + 1 + 1, 0, none⟩) (by simp; omega) _).setCell (p := ⟨w.heap.size + 1 + 1, 1, none⟩) (by simp; omega) _).setCell (p := ⟨w.heap.size + 1 + 1, 2, none⟩) (by simp; omega) _)
    | true =>
      have HK1 := Lib.hid hk1
      clear hk0 hk1
      go_enter Try.func79, Try.ntmps79
      go_wp2_with (fail)
      refine HC.out.mono ?_; rintro e w1 ⟨rfl, hb1⟩
      have L1 := bstep b0 b0.size hb1
      have Br1 := Br.below hb1
      have Bb1 := Bb.below hb1
      have Ba1 := Ba.below hb1
      obtain ⟨bl, d0, d1, d2⟩ := Bb1.c3
      have HC1 := Lib.hid (isMat_yes _ x1 _ (spMat.rd_below K1.out hb1) HK1.out)
      replace K0 := Lib.hid (spMat.rd_below K0.out hb1)
      replace K1 := Lib.hid (spMat.rd_below K1.out hb1)
      replace R0 := Lib.hid (spII.rd_below R0.out hb1)
      replace R1 := Lib.hid (spII.rd_below R1.out hb1)
      clear hb1 Ba Bb Br b0 HC
      go_wp2_with (fail)
      refine HC1.out.mono ?_; rintro e w2 ⟨rfl, hb2⟩
      have L2 := bstep L1 L1.size hb2
      have Br2 := Br1.below hb2
      have Bb2 := Bb1.below hb2
      have Ba2 := Ba1.below hb2
      replace K0 := Lib.hid (spMat.rd_below K0.out hb2)
      replace K1 := Lib.hid (spMat.rd_below K1.out hb2)
      replace R0 := Lib.hid (spII.rd_below R0.out hb2)
      replace R1 := Lib.hid (spII.rd_below R1.out hb2)
      clear hb2 Br1 Bb1 Ba1 d0 d1 d2 bl HC1 L1
      obtain ⟨bl2, d0, d1, d2⟩ := Bb2.c3
      obtain ⟨bl1, a0, a1, a2⟩ := Ba2.c3
      by_cases hPP : x0.P = x1.P
      · have tP : (x0.P != x1.P) = false := by simp [hPP]
        by_cases hCC : x0.C = (x1.R.length : Int)
        · have tC : ((x0.C != (x1.R.length : Int)) = false) := by simp [hCC]
          obtain ⟨hgp, hp1, hp2, -, -, hR8, hV0⟩ := Mat.ok_out HK0.out
          obtain ⟨-, hp1', hp2', hC0, hC1, hR8', hV1⟩ := Mat.ok_out HK1.out
          have eC : cMatrixProduct x0 x1 = 0 := by unfold cMatrixProduct; rw [HK0.out, HK1.out]; simp [hPP, hCC]
          have eR : rMatrixProduct x0 x1 = ⟨x1.P, x1.C, Num.prodR x1.P x0.R x1.R x1.C.toNat⟩ := by unfold rMatrixProduct; rw [if_pos eC]
          have HER := Lib.hid eR
          have HEC := Lib.hid eC
          have PL := Lib.hid (Num.prodR_length x1.P x0.R x1.R x1.C.toNat)
          have HCB : Hid (spMat.cnt ⟨x1.P, x1.C, Num.prodR x1.P x0.R x1.R x1.C.toNat⟩ ≤ 1000000000) := Lib.hid (cnt_bd Num.prodR_len (by rw [Num.prodR_length]; omega) (by omega))
          have HLEN : Hid (∀ j, j < (Num.prodR x1.P x0.R x1.R x1.C.toNat).length → ((Num.prodR x1.P x0.R x1.R x1.C.toNat).getD j []).length ≤ 1000) := Lib.hid fun j hj => by rw [Num.prodR_len j hj]; omega
          have HV0 : Hid (∀ i, i < x0.R.length → Num.Vec x1.P x0.C.toNat (x0.R.getD i [])) := Lib.hid (by rw [← hPP]; exact hV0)
          have HV1 := Lib.hid hV1
          have Ha : Hid (∀ W, Below w2.heap.size w2 W → Calls Try.prog 48 #[.agg #[.int .i64 x0.P, .int .i64 x0.C, .slice A0 x0.R.length c0]] W (Made (spRR x1.P) x0.R W)) := Lib.hid fun W hW => by rw [← hPP]; exact rowsOf_any _ x0 W (spMat.rd_below K0.out hW) HK0.out
          have Hb : Hid (∀ W, Below w2.heap.size w2 W → Calls Try.prog 48 #[.agg #[.int .i64 x1.P, .int .i64 x1.C, .slice A1 x1.R.length c1]] W (Made (spRR x1.P) x1.R W)) := Lib.hid fun W hW => rowsOf_any _ x1 W (spMat.rd_below K1.out hW) HK1.out
          have LC : Below w2.heap.size w2 w2 := Below.refl _ _
          obtain ⟨nn, hnn⟩ : ∃ n : Nat, x1.C = n := ⟨x1.C.toNat, by omega⟩
          have hnt : x1.C.toNat = nn := by omega
          rw [hnt] at HER HCB HLEN PL
          have HNN := Lib.hid hnn
          have hn8 : nn ≤ 8 := by omega
          have hm8 : Hid (x1.R.length = x0.C.toNat) := Lib.hid (by omega)
          have hm9 : x0.C.toNat ≤ 8 := by omega
          have ltr := Br2.lt
          rw [hnt] at hV1
          have HV1 := Lib.hid hV1
          clear eC eR hV0 hV1 hPP hCC R0 R1 K0 K1 HK0 HK1 hnt hC0 hC1 hnn
          go_wp2_with (fail)
          go_region_held3 (fun wx => wx.cell? ⟨w.heap.size, 0, none⟩ = some (.int .i64 x0.P) ∧ wx.cell? ⟨w.heap.size, 1, none⟩ = some (.int .i64 x0.C) ∧ wx.cell? ⟨w.heap.size, 2, none⟩ = some (.slice A0 x0.R.length c0) ∧ wx.cell? ⟨w.heap.size + 1, 0, none⟩ = some (.int .i64 x1.P) ∧ wx.cell? ⟨w.heap.size + 1, 1, none⟩ = some (.int .i64 x1.C) ∧ wx.cell? ⟨w.heap.size + 1, 2, none⟩ = some (.slice A1 x1.R.length c1)) (first | go_keep | assumption) (first | (go_at_call 48; (first | (with_reducible refine (Ha.out _ LC.drew).mono ?_) | (with_reducible refine (Ha.out _ LC).mono ?_)); rintro e wa ⟨ua, Sa, rfl, owa, hSa, hba⟩; obtain ⟨Aar, car, rfl, -, -⟩ := (spRR x1.P).own_rd owa; have LC : Below w2.heap.size w2 wa := (by first | exact bstep LC.drew LC.size hba | exact bstep LC LC.size hba); have SMa : wa.cell? ⟨w.heap.size, 0, none⟩ = some (.int .i64 x0.P) ∧ wa.cell? ⟨w.heap.size, 1, none⟩ = some (.int .i64 x0.C) ∧ wa.cell? ⟨w.heap.size, 2, none⟩ = some (.slice A0 x0.R.length c0) ∧ wa.cell? ⟨w.heap.size + 1, 0, none⟩ = some (.int .i64 x1.P) ∧ wa.cell? ⟨w.heap.size + 1, 1, none⟩ = some (.int .i64 x1.C) ∧ wa.cell? ⟨w.heap.size + 1, 2, none⟩ = some (.slice A1 x1.R.length c1) := ⟨(Blk.cell (Ba2.below LC) 0 (by simp)), (Blk.cell (Ba2.below LC) 1 (by simp)), (Blk.cell (Ba2.below LC) 2 (by simp)), (Blk.cell (Bb2.below LC) 0 (by simp)), (Blk.cell (Bb2.below LC) 1 (by simp)), (Blk.cell (Bb2.below LC) 2 (by simp))⟩) | (go_at_call 48; (first | (with_reducible refine (Hb.out _ LC.drew).mono ?_) | (with_reducible refine (Hb.out _ LC).mono ?_)); rintro e wb ⟨ub, Sb, rfl, owb, hSb, hbb⟩; obtain ⟨Abr, cbr, rfl, -, -⟩ := (spRR x1.P).own_rd owb; have LC : Below w2.heap.size w2 wb := (by first | exact bstep LC.drew LC.size hbb | exact bstep LC LC.size hbb); have SMb : wb.cell? ⟨w.heap.size, 0, none⟩ = some (.int .i64 x0.P) ∧ wb.cell? ⟨w.heap.size, 1, none⟩ = some (.int .i64 x0.C) ∧ wb.cell? ⟨w.heap.size, 2, none⟩ = some (.slice A0 x0.R.length c0) ∧ wb.cell? ⟨w.heap.size + 1, 0, none⟩ = some (.int .i64 x1.P) ∧ wb.cell? ⟨w.heap.size + 1, 1, none⟩ = some (.int .i64 x1.C) ∧ wb.cell? ⟨w.heap.size + 1, 2, none⟩ = some (.slice A1 x1.R.length c1) := ⟨(Blk.cell (Ba2.below LC) 0 (by simp)), (Blk.cell (Ba2.below LC) 1 (by simp)), (Blk.cell (Ba2.below LC) 2 (by simp)), (Blk.cell (Bb2.below LC) 0 (by simp)), (Blk.cell (Bb2.below LC) 1 (by simp)), (Blk.cell (Bb2.below LC) 2 (by simp))⟩))
          all_goals
            first
            | (obtain ⟨W, rfl, LW, HD, OA, OB, HSA, HSB⟩ : ∃ W, W = wb ∧ Below w2.heap.size w2 W ∧ Hid (∀ k, Sa k → ¬ Sb k) ∧ Hid ((spRR x1.P).own W Sa (.slice Aar x0.R.length car) x0.R) ∧ Hid ((spRR x1.P).own W Sb (.slice Abr x1.R.length cbr) x1.R) ∧ Hid (∀ k, Sa k → w2.heap.size ≤ k) ∧ Hid (∀ k, Sb k → w2.heap.size ≤ k) := ⟨wb, rfl, LC, Lib.hid (fun k h1 h2 => by have := (spRR x1.P).own_lt owa h1; have := hSb k h2; omega), Lib.hid ((spRR x1.P).own_below owa hbb), Lib.hid owb, Lib.hid (fun k hk => hSa k hk), Lib.hid (fun k hk => by have h1 := hSb k hk; have h2 := hba.size; have h3 : w2.heap.size = w2.drew.heap.size := rfl; omega)⟩)
            | (obtain ⟨W, rfl, LW, HD, OA, OB, HSA, HSB⟩ : ∃ W, W = wa ∧ Below w2.heap.size w2 W ∧ Hid (∀ k, Sa k → ¬ Sb k) ∧ Hid ((spRR x1.P).own W Sa (.slice Aar x0.R.length car) x0.R) ∧ Hid ((spRR x1.P).own W Sb (.slice Abr x1.R.length cbr) x1.R) ∧ Hid (∀ k, Sa k → w2.heap.size ≤ k) ∧ Hid (∀ k, Sb k → w2.heap.size ≤ k) := ⟨wa, rfl, LC, Lib.hid (fun k h1 h2 => by have := (spRR x1.P).own_lt owb h2; have := hSa k h1; omega), Lib.hid owa, Lib.hid ((spRR x1.P).own_below owb hba), Lib.hid (fun k hk => by have h1 := hSa k hk; have h2 := hbb.size; have h3 : w2.heap.size = w2.drew.heap.size := rfl; omega), Lib.hid (fun k hk => hSb k hk)⟩)
            have BW := Bb2.below LW
            have BrW := Br2.below LW
            obtain ⟨blW, e0, e1, e2⟩ := BW.c3
            have HZ : Hid (Calls Try.prog 83 #[.int .i64 x1.P, .int .i64 x1.C] W (Made (spR x1.P) (Num.zeroV nn) W)) := Lib.hid (by rw [HNN.out]; exact zeroRow_any x1.P nn W (by omega) (by omega) (by omega))
            have LW2 := bstep L2 L2.size LW
            have szw : w2.heap.size ≤ W.heap.size := LW.size
            have lw0 := L2.size
            clear LC SMa SMb hba hbb hSa hSb owa owb
            go_wp2_with (fail)
            refine HZ.out.mono ?_; rintro e w3 ⟨uz, Sz, rfl, owz, hSz, hbz⟩
            have OA3 := Lib.hid ((spRR x1.P).own_below OA.out hbz)
            have OB3 := Lib.hid ((spRR x1.P).own_below OB.out hbz)
            have OZ3 := Lib.hid owz
            have BW3 := BW.below hbz
            have Br3 := BrW.below hbz
            have L3 := bstep LW2 LW2.size hbz
            have HD3 : Hid (∀ k, Sa k → ¬ Sb k ∧ ¬ Sz k) := Lib.hid fun k hk => ⟨HD.out k hk, fun h2 => by have := (spRR x1.P).own_lt OA.out hk; have := hSz k h2; omega⟩
            have HSA3 : Hid (∀ k, Sa k → w.heap.size + 1 + 1 < k) := Lib.hid fun k hk => by have := HSA.out k hk; omega
            have HUA := Lib.hid (Num.uptoL_start (fun k => Num.timesV x1.P (x0.R.getD k []) x1.R nn) x0.R 0)
            have HUL := Lib.hid (Num.prodR_upto x1.P x0.R x1.R nn)
            clear hbz hSz owz OA OB BW BrW HD HSA LW2 e0 e1 e2 HZ
            go_wp2_with (fail)
            go_loopw [45] (fun s wr => ∃ (i : Nat) (S : Nat → Prop), s = .int .i64 i ∧ i ≤ x0.R.length ∧ Hid ((spRR x1.P).own wr S (.slice Aar x0.R.length car) (Num.uptoL (fun k => Num.timesV x1.P (x0.R.getD k []) x1.R nn) x0.R 0 i)) ∧ Hid (∀ k, S k → w.heap.size + 1 + 1 < k) ∧ Hid (∀ k, S k → ¬ Sb k ∧ ¬ Sz k) ∧ Hid ((spRR x1.P).own wr Sb (.slice Abr x1.R.length cbr) x1.R) ∧ Hid ((spR x1.P).own wr Sz uz (Num.zeroV nn)) ∧ Blk wr (w.heap.size + 1) [.int .i64 x1.P, .int .i64 x1.C, .slice A1 x1.R.length c1] 27 ∧ Blk wr (w.heap.size + 1 + 1) [.int .i64 0, .int .i64 0, .slice none 0 0] 27 ∧ Below w.heap.size w wr) (fun s _ => x0.R.length - (intOf s).toNat)
            case atStart => exact ⟨0, Sa, rfl, by omega, Lib.hid (by rw [HUA.out]; exact OA3.out), HSA3, HD3, OB3, OZ3, BW3, Br3, L3⟩
            case round =>
              obtain ⟨i, S, rfl, hi', own, hS, hD, ob, oz, BB, BR, bel⟩ := hrel
              clear OA3 OB3 OZ3 BW3 Br3 L3 HD3 HSA3
              by_cases hlt : i < x0.R.length
              · have hul := Num.uptoL_length (fun k => Num.timesV x1.P (x0.R.getD k []) x1.R nn) x0.R 0 i
                have hgt := Num.uptoL_get (fun k => Num.timesV x1.P (x0.R.getD k []) x1.R nn) x0.R 0 i hlt
                rw [if_neg (by omega)] at hgt
                obtain ⟨g, cg, u, T, e1, hSg, hgl, hc, hfz0, hu, -, -⟩ := spL_own_at own.out (j := i) (by omega)
                simp only [Value.slice.injEq] at e1
                obtain ⟨rfl, -, rfl⟩ := e1
                rw [hgt] at hu
                have i0' : (0 : Int) ≤ (i : Int) := by omega
                have i1 : (i : Int) < (x0.R.length : Int) := by omega
                have HST : Hid ((Num.uptoL (fun k => Num.timesV x1.P (x0.R.getD k []) x1.R nn) x0.R 0 i).set i (Num.timesV x1.P (x0.R.getD i []) x1.R nn) = _) := Lib.hid (Num.uptoL_step (fun k => Num.timesV x1.P (x0.R.getD k []) x1.R nn) x0.R (Nat.zero_le i) hlt)
                have HULI : Hid (i < (Num.uptoL (fun k => Num.timesV x1.P (x0.R.getD k []) x1.R nn) x0.R 0 i).length) := Lib.hid (by omega)
                have HC := Lib.hid (rowProduct_any x1.P uz u _ (x0.R.getD i []) x1.R nn x0.C.toNat wr ((spR x1.P).own_rd oz.out) ((spR x1.P).own_rd hu) ((spRR x1.P).own_rd ob.out) hp1' hp2' HV1.out (HV0.out i hlt) hm8.out (by omega) (by omega))
                have hgR := hS.out g hSg
                have hgB := (hD.out g hSg).1
                have hgZ := (hD.out g hSg).2
                clear hul hgt hu
                generalize x0.R.getD i [] = row at *
                go_wp2_with (fail)
                refine HC.out.mono ?_; rintro e w4 ⟨u4, S4, rfl, ow4, hS4, hb4⟩
                obtain ⟨A4, c4, rfl, -⟩ := spR_form ((spR x1.P).own_rd ow4)
                obtain ⟨⟨ov, hov⟩, hfz, st1, st2⟩ := spL_put own.out HULI.out hb4 ow4 hS4
                rw [HST.out] at st1
                generalize (Num.timesV x1.P row x1.R nn).length = ln at *
                have O4 := Lib.hid st1
                have ob4 := Lib.hid ((spRR x1.P).own_set ((spRR x1.P).own_below ob.out hb4) (p := ⟨g, i, none⟩) hgB (.slice A4 ln c4))
                have oz4 := Lib.hid ((spR x1.P).own_set ((spR x1.P).own_below oz.out hb4) (p := ⟨g, i, none⟩) hgZ (.slice A4 ln c4))
                have BB4 := (BB.below hb4).other (p := ⟨g, i, none⟩) (by simp; omega) (.slice A4 ln c4)
                have BR4 := (BR.below hb4).other (p := ⟨g, i, none⟩) (by simp; omega) (.slice A4 ln c4)
                have bel4 := below_set (bstep bel bel.size hb4) (g := g) (by omega) i (.slice A4 ln c4)
                have hzr := bel.size
                have lb := BR.lt
                have HS4 : Hid (∀ k, (S k ∨ S4 k) → w.heap.size + 1 + 1 < k) := Lib.hid fun k hk => by
                  rcases hk with hk | hk
                  · exact hS.out k hk
                  · have := hS4 k hk; omega
                have HD4 : Hid (∀ k, (S k ∨ S4 k) → ¬ Sb k ∧ ¬ Sz k) := Lib.hid fun k hk => by
                  rcases hk with hk | hk
                  · exact hD.out k hk
                  · have := hS4 k hk
                    exact ⟨fun h2 => by have := (spRR x1.P).own_lt ob.out h2; omega, fun h2 => by have := (spR x1.P).own_lt oz.out h2; omega⟩
                clear st1 st2 ow4 hS4 hb4 own ob oz BB BR bel HC hS hD
                go_wp2_with (fail)
                exact ⟨⟨i + 1, _, by go_num, by omega, O4, HS4, HD4, ob4, oz4, BB4, BR4, bel4⟩, by simp [intOf]; omega⟩
              · obtain rfl : i = x0.R.length := by omega
                have hge : ¬ ((x0.R.length : Int) < (x0.R.length : Int)) := by omega
                rw [HUL.out] at own
                obtain ⟨blB, e0, e1, e2⟩ := BB.c3
                have rdP := (spRR x1.P).own_rd own.out
                have e5 : x0.R.length = (Num.prodR x1.P x0.R x1.R nn).length := PL.out.symm
                have HC : Hid (Calls Try.prog 65 #[.int .i64 x1.P, .int .i64 x1.C, .slice Aar x0.R.length car] wr (Made spMat ⟨x1.P, x1.C, Num.prodR x1.P x0.R x1.R nn⟩ wr)) := Lib.hid (matrixOf_any x1.P x1.C _ _ wr rdP (by omega) HLEN.out)
                have ltB := BR.lt
                clear rdP e5 own ob oz hS hD
                go_wp2_with (fail)
                refine HC.out.mono ?_; rintro e w5 ⟨u5, S5, rfl, ⟨v5, T5, rfl, o5, sub5, -⟩, hS5, hb5⟩
                obtain ⟨A5, c5, rfl, -, -⟩ := spII.own_rd o5
                have B5 := BR.below hb5
                have L5 := bstep bel bel.size hb5
                have HT : Hid (∀ k, T5 k → w.heap.size ≤ k) := Lib.hid fun k h => by have := hS5 k (sub5 k h); have := bel.size; omega
                have nT : ¬ T5 (w.heap.size + 1 + 1) := fun h => by have := hS5 _ (sub5 _ h); omega
                clear hb5 hS5 sub5 BR bel
                obtain ⟨bl, q0, q1, q2⟩ := B5.c3
                obtain ⟨f0, f1, f2⟩ := B5.f3
                have HO := Lib.hid o5
                clear o5
                go_wp2_with (fail)
                refine bodyPost_ret (v := .tuple #[.agg #[.int .i64 x1.P, .int .i64 x1.C, .slice A5 (Num.prodR x1.P x0.R x1.R nn).length c5], .int .i64 0]) (by simp [results, Try.results79, go_sem, bl, q0, q1, q2]) rfl ?_
                rw [HER.out, HEC.out]
                refine MadeC.mat (S := T5) rfl ?_ HT.out HCB.out ?_
                · exact spII.own_set (spII.own_set (spII.own_set HO.out (p := ⟨w.heap.size + 1 + 1, 0, none⟩) nT _) (p := ⟨w.heap.size + 1 + 1, 1, none⟩) nT _) (p := ⟨w.heap.size + 1 + 1, 2, none⟩) nT _
                · exact ((L5.setCell (p := ⟨w.heap.size + 1 + 1, 0, none⟩) (by simp; try omega) _).setCell (p := ⟨w.heap.size + 1 + 1, 1, none⟩) (by simp; try omega) _).setCell (p := ⟨w.heap.size + 1 + 1, 2, none⟩) (by simp; try omega) _
        · have tC : ((x0.C != (x1.R.length : Int)) = true) := by simp; omega
          have eC : cMatrixProduct x0 x1 = 2 := by unfold cMatrixProduct; rw [HK0.out, HK1.out]; simp [hCC]
          have eR : rMatrixProduct x0 x1 = noMat := by unfold rMatrixProduct; rw [eC]; rfl
          have HER := Lib.hid eR
          have HEC := Lib.hid eC
          clear eC eR hPP hCC
          obtain ⟨blr, q0, q1, q2⟩ := Br2.c3
          obtain ⟨f0, f1, f2⟩ := Br2.f3
          go_wp2_with (fail)
          refine bodyPost_ret (v := .tuple #[.agg #[.int .i64 0, .int .i64 0, .slice none 0 0], .int .i64 2]) (by simp [results, Try.results79, go_sem, blr, q0, q1, q2]) rfl ?_
          rw [HER.out, HEC.out]
          exact MadeC.none rfl (((L2.setCell (p := ⟨w.heap.size + 1 + 1, 0, none⟩) (by simp; try omega) _).setCell (p := ⟨w.heap.size + 1 + 1, 1, none⟩) (by simp; try omega) _).setCell (p := ⟨w.heap.size + 1 + 1, 2, none⟩) (by simp; try omega) _)
      · have tP : (x0.P != x1.P) = true := by simp [hPP]
        have eC : cMatrixProduct x0 x1 = 2 := by unfold cMatrixProduct; rw [HK0.out, HK1.out]; simp [hPP]
        have eR : rMatrixProduct x0 x1 = noMat := by unfold rMatrixProduct; rw [eC]; rfl
        have HER := Lib.hid eR
        have HEC := Lib.hid eC
        clear eC eR hPP
        obtain ⟨blr, q0, q1, q2⟩ := Br2.c3
        obtain ⟨f0, f1, f2⟩ := Br2.f3
        go_wp2_with (fail)
        refine bodyPost_ret (v := .tuple #[.agg #[.int .i64 0, .int .i64 0, .slice none 0 0], .int .i64 2]) (by simp [results, Try.results79, go_sem, blr, q0, q1, q2]) rfl ?_
        rw [HER.out, HEC.out]
        exact MadeC.none rfl (((L2.setCell (p := ⟨w.heap.size + 1 + 1, 0, none⟩) (by simp; try omega) _).setCell (p := ⟨w.heap.size + 1 + 1, 1, none⟩) (by simp; try omega) _).setCell (p := ⟨w.heap.size + 1 + 1, 2, none⟩) (by simp; try omega) _)
end Go.Proofs.Ytggkoihlmijacaa
