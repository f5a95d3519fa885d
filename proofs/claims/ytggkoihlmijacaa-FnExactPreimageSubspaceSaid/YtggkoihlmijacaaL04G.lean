/- The program's PreimageSubspace. -/
import Derived.Test.YtggkoihlmijacaaL04E
import Derived.Test.YtggkoihlmijacaaL02W
namespace Go.Proofs.Ytggkoihlmijacaa
open Go.RowKit
set_option linter.unusedVariables false
set_option linter.unusedSimpArgs false

set_option maxRecDepth 100000 in
set_option maxHeartbeats 2000000 in
theorem iPreimageSubspace_ok (v0 : Value) (x0 : Mat) (v1 : Value) (x1 : Mat) (w : World) (h0 : spMat.rd w v0 x0) (h1 : spMat.rd w v1 x1) (s0 : spMat.sz x0 ≤ 1048576) (s1 : spMat.sz x1 ≤ 1048576) : Calls Try.prog 35 #[v0, v1] w (MadeC spMat (rPreimageSubspace x0 x1) (cPreimageSubspace x0 x1) w) := by
  obtain ⟨A0, n0, c0, rfl, r0⟩ := spMat_form h0
  obtain ⟨rfl, -, -, -⟩ := rdII_of r0
  obtain ⟨A1, n1, c1, rfl, r1⟩ := spMat_form h1
  obtain ⟨rfl, -, -, -⟩ := rdII_of r1
  have L : Below w.heap.size w (((w.alloc (.cells [.int .i64 x0.P, .int .i64 x0.C, .slice A0 x0.R.length c0].toArray 27)).alloc (.cells [.int .i64 x1.P, .int .i64 x1.C, .slice A1 x1.R.length c1].toArray 27)).alloc (.cells [.int .i64 0, .int .i64 0, .slice none 0 0].toArray 27)) := by go_grown
  have Ba0 : Blk (((w.alloc (.cells [.int .i64 x0.P, .int .i64 x0.C, .slice A0 x0.R.length c0].toArray 27)).alloc (.cells [.int .i64 x1.P, .int .i64 x1.C, .slice A1 x1.R.length c1].toArray 27)).alloc (.cells [.int .i64 0, .int .i64 0, .slice none 0 0].toArray 27)) w.heap.size [.int .i64 x0.P, .int .i64 x0.C, .slice A0 x0.R.length c0] 27 := by have := ((Blk.new w [.int .i64 x0.P, .int .i64 x0.C, .slice A0 x0.R.length c0] 27).alloc (.cells [.int .i64 x1.P, .int .i64 x1.C, .slice A1 x1.R.length c1].toArray 27)).alloc (.cells [.int .i64 0, .int .i64 0, .slice none 0 0].toArray 27); simpa only [World.size_alloc] using this
  have Ba1 : Blk (((w.alloc (.cells [.int .i64 x0.P, .int .i64 x0.C, .slice A0 x0.R.length c0].toArray 27)).alloc (.cells [.int .i64 x1.P, .int .i64 x1.C, .slice A1 x1.R.length c1].toArray 27)).alloc (.cells [.int .i64 0, .int .i64 0, .slice none 0 0].toArray 27)) (w.heap.size + 1) [.int .i64 x1.P, .int .i64 x1.C, .slice A1 x1.R.length c1] 27 := by have := (Blk.new (w.alloc (.cells [.int .i64 x0.P, .int .i64 x0.C, .slice A0 x0.R.length c0].toArray 27)) [.int .i64 x1.P, .int .i64 x1.C, .slice A1 x1.R.length c1] 27).alloc (.cells [.int .i64 0, .int .i64 0, .slice none 0 0].toArray 27); simpa only [World.size_alloc] using this
  have Br : Blk (((w.alloc (.cells [.int .i64 x0.P, .int .i64 x0.C, .slice A0 x0.R.length c0].toArray 27)).alloc (.cells [.int .i64 x1.P, .int .i64 x1.C, .slice A1 x1.R.length c1].toArray 27)).alloc (.cells [.int .i64 0, .int .i64 0, .slice none 0 0].toArray 27)) (w.heap.size + 1 + 1) [.int .i64 0, .int .i64 0, .slice none 0 0] 27 := by have := Blk.new ((w.alloc (.cells [.int .i64 x0.P, .int .i64 x0.C, .slice A0 x0.R.length c0].toArray 27)).alloc (.cells [.int .i64 x1.P, .int .i64 x1.C, .slice A1 x1.R.length c1].toArray 27)) [.int .i64 0, .int .i64 0, .slice none 0 0] 27; simpa only [World.size_alloc] using this
  have K0 := Lib.hid (spMat.rd_below h0 L)
  have R0 := Lib.hid (spII.rd_below r0 L)
  clear h0 r0
  have K1 := Lib.hid (spMat.rd_below h1 L)
  have R1 := Lib.hid (spII.rd_below r1 L)
  clear h1 r1
  cases hk0 : x0.sub with
  | false =>
    have HEC := Lib.hid (pre_bad1 (a := x1) hk0).1
    have HER := Lib.hid (pre_bad1 (a := x1) hk0).2
    have HC := Lib.hid (isSub_no _ x0 _ K0.out hk0)
    clear hk0
    go_enter Try.func35, Try.ntmps35
    go_wp2_with (fail)
    refine (HC.out).mono ?_; rintro e w1 ⟨rfl, hb⟩
    replace L := bstep L L.size hb
    replace Ba0 := Ba0.below hb
    replace Ba1 := Ba1.below hb
    replace Br := Br.below hb
    replace K0 := Lib.hid (spMat.rd_below K0.out hb)
    replace R0 := Lib.hid (spII.rd_below R0.out hb)
    replace K1 := Lib.hid (spMat.rd_below K1.out hb)
    replace R1 := Lib.hid (spII.rd_below R1.out hb)
    clear hb
    obtain ⟨bla0, qa00, qa01, qa02⟩ := Ba0.c3
    obtain ⟨bla1, qa10, qa11, qa12⟩ := Ba1.c3
    obtain ⟨blr, qr0, qr1, qr2⟩ := Br.c3
    obtain ⟨f0, f1, f2⟩ := Br.f3
    go_wp2_with (fail)
    refine bodyPost_ret (v := .tuple #[.agg #[.int .i64 0, .int .i64 0, .slice none 0 0], .int .i64 1]) (by simp [results, Try.results35, go_sem, bla0, qa00, qa01, qa02, bla1, qa10, qa11, qa12, blr, qr0, qr1, qr2]) rfl ?_
    rw [HER.out, HEC.out]
    exact MadeC.none rfl ((((L).setCell (p := ⟨(w.heap.size + 1 + 1), 0, none⟩) (by simp; try omega) _).setCell (p := ⟨(w.heap.size + 1 + 1), 1, none⟩) (by simp; try omega) _).setCell (p := ⟨(w.heap.size + 1 + 1), 2, none⟩) (by simp; try omega) _)
  | true =>
    have HC := Lib.hid (isSub_yes _ x0 _ K0.out hk0)
    cases hk1 : x1.ok with
    | false =>
      have HEC := Lib.hid (pre_bad2 (u := x0) hk1).1
      have HER := Lib.hid (pre_bad2 (u := x0) hk1).2
      have HK1 := Lib.hid hk1
      clear hk0 hk1
      go_enter Try.func35, Try.ntmps35
      go_wp2_with (fail)
      refine (HC.out).mono ?_; rintro e w1 ⟨rfl, hb⟩
      replace L := bstep L L.size hb
      replace Ba0 := Ba0.below hb
      replace Ba1 := Ba1.below hb
      replace Br := Br.below hb
      replace K0 := Lib.hid (spMat.rd_below K0.out hb)
      replace R0 := Lib.hid (spII.rd_below R0.out hb)
      replace K1 := Lib.hid (spMat.rd_below K1.out hb)
      replace R1 := Lib.hid (spII.rd_below R1.out hb)
      clear hb
      obtain ⟨bla0, qa00, qa01, qa02⟩ := Ba0.c3
      obtain ⟨bla1, qa10, qa11, qa12⟩ := Ba1.c3
      obtain ⟨blr, qr0, qr1, qr2⟩ := Br.c3
      obtain ⟨f0, f1, f2⟩ := Br.f3
      go_wp2_with (fail)
      refine (isMat_no _ x1 _ K1.out HK1.out).mono ?_; rintro e w2 ⟨rfl, hb⟩
      clear bla0 qa00 qa01 qa02
      clear bla1 qa10 qa11 qa12
      clear blr qr0 qr1 qr2
      clear f0 f1 f2
      replace L := bstep L L.size hb
      replace Ba0 := Ba0.below hb
      replace Ba1 := Ba1.below hb
      replace Br := Br.below hb
      replace K0 := Lib.hid (spMat.rd_below K0.out hb)
      replace R0 := Lib.hid (spII.rd_below R0.out hb)
      replace K1 := Lib.hid (spMat.rd_below K1.out hb)
      replace R1 := Lib.hid (spII.rd_below R1.out hb)
      clear hb
      obtain ⟨bla0, qa00, qa01, qa02⟩ := Ba0.c3
      obtain ⟨bla1, qa10, qa11, qa12⟩ := Ba1.c3
      obtain ⟨blr, qr0, qr1, qr2⟩ := Br.c3
      obtain ⟨f0, f1, f2⟩ := Br.f3
      go_wp2_with (fail)
      refine bodyPost_ret (v := .tuple #[.agg #[.int .i64 0, .int .i64 0, .slice none 0 0], .int .i64 1]) (by simp [results, Try.results35, go_sem, bla0, qa00, qa01, qa02, bla1, qa10, qa11, qa12, blr, qr0, qr1, qr2]) rfl ?_
      rw [HER.out, HEC.out]
      exact MadeC.none rfl ((((L).setCell (p := ⟨(w.heap.size + 1 + 1), 0, none⟩) (by simp; try omega) _).setCell (p := ⟨(w.heap.size + 1 + 1), 1, none⟩) (by simp; try omega) _).setCell (p := ⟨(w.heap.size + 1 + 1), 2, none⟩) (by simp; try omega) _)
    | true =>
      have HK1 := Lib.hid hk1
      have s0' := Lib.hid (Mat.ok_sz (Mat.sub_ok hk0))
      have s1' := Lib.hid (Mat.ok_sz hk1)
      by_cases hc : cPreimageSubspace x0 x1 = 0
      · obtain ⟨-, -, -, -, e1, e2, e3, e4⟩ := pre_steps hc
        have hi := pre_sub hc
        have er : rPreimageSubspace x0 x1 = ⟨x0.P, x1.R.length, Num.preR x0.P x0.R x1.R x0.C.toNat⟩ := by unfold rPreimageSubspace; rw [if_pos hc]
        rw [er] at e4 hi
        obtain ⟨a1, a2, a3, a4⟩ := pre_steps0 hk0
        have an := Mat.sub_ok (ann_ok hk0)
        have H1 : Hid (∀ W u, spMat.rd W u x0 → Calls Try.prog 29 #[u] W (MadeC spMat ⟨x0.P, x0.C, Num.annR x0.P x0.R x0.C.toNat⟩ 0 W)) := Lib.hid fun W u hu => by
          have := iAnnihilator_ok u x0 W hu s0'.out
          rwa [a1, a2] at this
        have H2 : Hid (∀ W u, spMat.rd W u ⟨x0.P, x0.C, Num.annR x0.P x0.R x0.C.toNat⟩ → Calls Try.prog 71 #[u] W (MadeC spMat ⟨x0.P, (Num.annR x0.P x0.R x0.C.toNat).length, Num.transR (Num.annR x0.P x0.R x0.C.toNat) x0.C.toNat⟩ 0 W)) := Lib.hid fun W u hu => by
          have := iTransposeMatrix_ok u _ W hu (Mat.ok_sz an)
          rwa [a3, a4] at this
        obtain ⟨g1, -, -, g4, g5, -, g7⟩ := Mat.sub_out hk0
        obtain ⟨-, -, -, -, -, k6, -⟩ := Mat.ok_out hk1
        have al := (Num.ann_ech g1 g7.vecs).len_le
        have hpk := prod_ok (p := x0.P) (C := (Num.annR x0.P x0.R x0.C.toNat).length) (R := x1.R) (S := Num.transR (Num.annR x0.P x0.R x0.C.toNat) x0.C.toNat) g1 (by omega) (by omega) k6
        rw [Int.toNat_natCast] at hpk
        have HEC := Lib.hid hc
        have HER := Lib.hid er
        have HCB : Hid (spMat.cnt ⟨x0.P, x1.R.length, Num.preR x0.P x0.R x1.R x0.C.toNat⟩ ≤ 1000000000) := Lib.hid (Mat.ok_cnt (Mat.sub_ok hi))
        have H3 : Hid (∀ W u v, spMat.rd W u x1 → spMat.rd W v ⟨x0.P, (Num.annR x0.P x0.R x0.C.toNat).length, Num.transR (Num.annR x0.P x0.R x0.C.toNat) x0.C.toNat⟩ → Calls Try.prog 79 #[u, v] W (MadeC spMat ⟨x0.P, (Num.annR x0.P x0.R x0.C.toNat).length, Num.prodR x0.P x1.R (Num.transR (Num.annR x0.P x0.R x0.C.toNat) x0.C.toNat) (Num.annR x0.P x0.R x0.C.toNat).length⟩ 0 W)) := Lib.hid fun W u v hu hv => by
          have := iMatrixProduct_ok u x1 v _ W hu hv s1'.out (Mat.ok_sz (trans_ok an))
          rwa [e1, e2] at this
        have H4 : Hid (∀ W u, spMat.rd W u ⟨x0.P, (Num.annR x0.P x0.R x0.C.toNat).length, Num.prodR x0.P x1.R (Num.transR (Num.annR x0.P x0.R x0.C.toNat) x0.C.toNat) (Num.annR x0.P x0.R x0.C.toNat).length⟩ → Calls Try.prog 72 #[u] W (MadeC spMat ⟨x0.P, x1.R.length, Num.preR x0.P x0.R x1.R x0.C.toNat⟩ 0 W)) := Lib.hid fun W u hu => by
          have := iLeftKernel_ok u _ W hu (Mat.ok_sz hpk)
          rwa [e3, e4] at this
        clear e1 e2 e3 e4 a1 a2 a3 a4 an hk0 hk1 hc hi er g1 g4 g5 g7 k6 al hpk
        generalize Num.preR x0.P x0.R x1.R x0.C.toNat = RE at *
        generalize Num.prodR x0.P x1.R (Num.transR (Num.annR x0.P x0.R x0.C.toNat) x0.C.toNat) (Num.annR x0.P x0.R x0.C.toNat).length = RP at *
        generalize Num.transR (Num.annR x0.P x0.R x0.C.toNat) x0.C.toNat = RT at *
        generalize Num.annR x0.P x0.R x0.C.toNat = RA at *
        go_enter Try.func35, Try.ntmps35
        go_wp2_with (fail)
        refine (HC.out).mono ?_; rintro e w1 ⟨rfl, hb⟩
        replace L := bstep L L.size hb
        replace Ba0 := Ba0.below hb
        replace Ba1 := Ba1.below hb
        replace Br := Br.below hb
        replace K0 := Lib.hid (spMat.rd_below K0.out hb)
        replace R0 := Lib.hid (spII.rd_below R0.out hb)
        replace K1 := Lib.hid (spMat.rd_below K1.out hb)
        replace R1 := Lib.hid (spII.rd_below R1.out hb)
        clear hb
        obtain ⟨bla0, qa00, qa01, qa02⟩ := Ba0.c3
        obtain ⟨bla1, qa10, qa11, qa12⟩ := Ba1.c3
        obtain ⟨blr, qr0, qr1, qr2⟩ := Br.c3
        obtain ⟨f0, f1, f2⟩ := Br.f3
        go_wp2_with (fail)
        refine (isMat_yes _ x1 _ K1.out HK1.out).mono ?_; rintro e w2 ⟨rfl, hb⟩
        clear bla0 qa00 qa01 qa02
        clear bla1 qa10 qa11 qa12
        clear blr qr0 qr1 qr2
        clear f0 f1 f2
        replace L := bstep L L.size hb
        replace Ba0 := Ba0.below hb
        replace Ba1 := Ba1.below hb
        replace Br := Br.below hb
        replace K0 := Lib.hid (spMat.rd_below K0.out hb)
        replace R0 := Lib.hid (spII.rd_below R0.out hb)
        replace K1 := Lib.hid (spMat.rd_below K1.out hb)
        replace R1 := Lib.hid (spII.rd_below R1.out hb)
        clear hb
        obtain ⟨bla0, qa00, qa01, qa02⟩ := Ba0.c3
        obtain ⟨bla1, qa10, qa11, qa12⟩ := Ba1.c3
        obtain ⟨blr, qr0, qr1, qr2⟩ := Br.c3
        obtain ⟨f0, f1, f2⟩ := Br.f3
        go_wp2_with (fail)
        refine (H1.out _ _ K0.out).mono ?_; rintro e w3 ⟨ua, Sa, rfl, ⟨va, Ta, rfl, oa, suba, -⟩, hSa, -, hb⟩
        clear bla0 qa00 qa01 qa02
        clear bla1 qa10 qa11 qa12
        clear blr qr0 qr1 qr2
        clear f0 f1 f2
        obtain ⟨Aa, ca, rfl, -, -⟩ := spII.own_rd oa
        have HTa : Hid (∀ k, Ta k → w.heap.size ≤ k) := Lib.hid fun k h => by have := hSa k (suba k h); have := L.size; omega
        have Naa0 : Hid (¬ Ta w.heap.size) := Lib.hid fun h => by have := hSa _ (suba _ h); have := Ba0.lt; omega
        have Naa1 : Hid (¬ Ta (w.heap.size + 1)) := Lib.hid fun h => by have := hSa _ (suba _ h); have := Ba1.lt; omega
        have Nar : Hid (¬ Ta (w.heap.size + 1 + 1)) := Lib.hid fun h => by have := hSa _ (suba _ h); have := Br.lt; omega
        replace L := bstep L L.size hb
        replace Ba0 := Ba0.below hb
        replace Ba1 := Ba1.below hb
        replace Br := Br.below hb
        replace K0 := Lib.hid (spMat.rd_below K0.out hb)
        replace R0 := Lib.hid (spII.rd_below R0.out hb)
        replace K1 := Lib.hid (spMat.rd_below K1.out hb)
        replace R1 := Lib.hid (spII.rd_below R1.out hb)
        clear hb
        have Ka : Hid (spMat.rd w3 (.agg #[.int .i64 x0.P, .int .i64 x0.C, .slice Aa (RA).length ca]) ⟨x0.P, x0.C, RA⟩) := Lib.hid ⟨_, rfl, spII.own_rd oa⟩
        have Oa := Lib.hid oa
        clear oa suba hSa
        obtain ⟨bla0, qa00, qa01, qa02⟩ := Ba0.c3
        obtain ⟨bla1, qa10, qa11, qa12⟩ := Ba1.c3
        obtain ⟨blr, qr0, qr1, qr2⟩ := Br.c3
        obtain ⟨f0, f1, f2⟩ := Br.f3
        have Lb := L
        have hbx : Below w3.heap.size w3 (w3.alloc (.cells [.int .i64 x0.P, .int .i64 x0.C, .slice Aa RA.length ca].toArray 27)) := (Below.refl _ _).alloc (Nat.le_refl _) _
        have Ba := Blk.new w3 [.int .i64 x0.P, .int .i64 x0.C, .slice Aa RA.length ca] 27
        replace L := bstep L L.size hbx
        replace Ba0 := Ba0.below hbx
        replace Ba1 := Ba1.below hbx
        replace Br := Br.below hbx
        replace K0 := Lib.hid (spMat.rd_below K0.out hbx)
        replace R0 := Lib.hid (spII.rd_below R0.out hbx)
        replace K1 := Lib.hid (spMat.rd_below K1.out hbx)
        replace R1 := Lib.hid (spII.rd_below R1.out hbx)
        replace Ka := Lib.hid (spMat.rd_below Ka.out hbx)
        replace Oa := Lib.hid (spII.own_below Oa.out hbx)
        clear hbx
        go_wp2_with (fail)
        refine (H2.out _ _ Ka.out).mono ?_; rintro e w4 ⟨ut, St, rfl, ⟨vt, Tt, rfl, ot, subt, -⟩, hSt, -, hb⟩
        clear bla0 qa00 qa01 qa02
        clear bla1 qa10 qa11 qa12
        clear blr qr0 qr1 qr2
        clear f0 f1 f2
        clear Lb
        obtain ⟨At, ct, rfl, -, -⟩ := spII.own_rd ot
        have HTt : Hid (∀ k, Tt k → w.heap.size ≤ k) := Lib.hid fun k h => by have := hSt k (subt k h); have := L.size; omega
        have Nta0 : Hid (¬ Tt w.heap.size) := Lib.hid fun h => by have := hSt _ (subt _ h); have := Ba0.lt; omega
        have Nta1 : Hid (¬ Tt (w.heap.size + 1)) := Lib.hid fun h => by have := hSt _ (subt _ h); have := Ba1.lt; omega
        have Ntr : Hid (¬ Tt (w.heap.size + 1 + 1)) := Lib.hid fun h => by have := hSt _ (subt _ h); have := Br.lt; omega
        have Nta : Hid (¬ Tt w3.heap.size) := Lib.hid fun h => by have := hSt _ (subt _ h); have := Ba.lt; omega
        replace L := bstep L L.size hb
        replace Ba0 := Ba0.below hb
        replace Ba1 := Ba1.below hb
        replace Br := Br.below hb
        replace Ba := Ba.below hb
        replace K0 := Lib.hid (spMat.rd_below K0.out hb)
        replace R0 := Lib.hid (spII.rd_below R0.out hb)
        replace K1 := Lib.hid (spMat.rd_below K1.out hb)
        replace R1 := Lib.hid (spII.rd_below R1.out hb)
        replace Ka := Lib.hid (spMat.rd_below Ka.out hb)
        replace Oa := Lib.hid (spII.own_below Oa.out hb)
        clear hb
        have Kt : Hid (spMat.rd w4 (.agg #[.int .i64 x0.P, .int .i64 (RA.length : Int), .slice At (RT).length ct]) ⟨x0.P, (RA.length : Int), RT⟩) := Lib.hid ⟨_, rfl, spII.own_rd ot⟩
        have Ot := Lib.hid ot
        clear ot subt hSt
        obtain ⟨bla0, qa00, qa01, qa02⟩ := Ba0.c3
        obtain ⟨bla1, qa10, qa11, qa12⟩ := Ba1.c3
        obtain ⟨blr, qr0, qr1, qr2⟩ := Br.c3
        obtain ⟨bla, qa0, qa1, qa2⟩ := Ba.c3
        obtain ⟨f0, f1, f2⟩ := Br.f3
        have Lb := L
        have hbx : Below w4.heap.size w4 (w4.alloc (.cells [.int .i64 x0.P, .int .i64 (RA.length : Int), .slice At RT.length ct].toArray 27)) := (Below.refl _ _).alloc (Nat.le_refl _) _
        have Bt := Blk.new w4 [.int .i64 x0.P, .int .i64 (RA.length : Int), .slice At RT.length ct] 27
        replace L := bstep L L.size hbx
        replace Ba0 := Ba0.below hbx
        replace Ba1 := Ba1.below hbx
        replace Br := Br.below hbx
        replace Ba := Ba.below hbx
        replace K0 := Lib.hid (spMat.rd_below K0.out hbx)
        replace R0 := Lib.hid (spII.rd_below R0.out hbx)
        replace K1 := Lib.hid (spMat.rd_below K1.out hbx)
        replace R1 := Lib.hid (spII.rd_below R1.out hbx)
        replace Ka := Lib.hid (spMat.rd_below Ka.out hbx)
        replace Kt := Lib.hid (spMat.rd_below Kt.out hbx)
        replace Oa := Lib.hid (spII.own_below Oa.out hbx)
        replace Ot := Lib.hid (spII.own_below Ot.out hbx)
        clear hbx
        go_wp2_with (fail)
        refine (H3.out _ _ _ K1.out Kt.out).mono ?_; rintro e w5 ⟨up, Sp, rfl, ⟨vp, Tp, rfl, op, subp, -⟩, hSp, -, hb⟩
        clear bla0 qa00 qa01 qa02
        clear bla1 qa10 qa11 qa12
        clear blr qr0 qr1 qr2
        clear bla qa0 qa1 qa2
        clear f0 f1 f2
        clear Lb
        obtain ⟨Ap, cp, rfl, -, -⟩ := spII.own_rd op
        have HTp : Hid (∀ k, Tp k → w.heap.size ≤ k) := Lib.hid fun k h => by have := hSp k (subp k h); have := L.size; omega
        have Npa0 : Hid (¬ Tp w.heap.size) := Lib.hid fun h => by have := hSp _ (subp _ h); have := Ba0.lt; omega
        have Npa1 : Hid (¬ Tp (w.heap.size + 1)) := Lib.hid fun h => by have := hSp _ (subp _ h); have := Ba1.lt; omega
        have Npr : Hid (¬ Tp (w.heap.size + 1 + 1)) := Lib.hid fun h => by have := hSp _ (subp _ h); have := Br.lt; omega
        have Npa : Hid (¬ Tp w3.heap.size) := Lib.hid fun h => by have := hSp _ (subp _ h); have := Ba.lt; omega
        have Npt : Hid (¬ Tp w4.heap.size) := Lib.hid fun h => by have := hSp _ (subp _ h); have := Bt.lt; omega
        replace L := bstep L L.size hb
        replace Ba0 := Ba0.below hb
        replace Ba1 := Ba1.below hb
        replace Br := Br.below hb
        replace Ba := Ba.below hb
        replace Bt := Bt.below hb
        replace K0 := Lib.hid (spMat.rd_below K0.out hb)
        replace R0 := Lib.hid (spII.rd_below R0.out hb)
        replace K1 := Lib.hid (spMat.rd_below K1.out hb)
        replace R1 := Lib.hid (spII.rd_below R1.out hb)
        replace Ka := Lib.hid (spMat.rd_below Ka.out hb)
        replace Kt := Lib.hid (spMat.rd_below Kt.out hb)
        replace Oa := Lib.hid (spII.own_below Oa.out hb)
        replace Ot := Lib.hid (spII.own_below Ot.out hb)
        clear hb
        have Kp : Hid (spMat.rd w5 (.agg #[.int .i64 x0.P, .int .i64 (RA.length : Int), .slice Ap (RP).length cp]) ⟨x0.P, (RA.length : Int), RP⟩) := Lib.hid ⟨_, rfl, spII.own_rd op⟩
        have Op := Lib.hid op
        clear op subp hSp
        obtain ⟨bla0, qa00, qa01, qa02⟩ := Ba0.c3
        obtain ⟨bla1, qa10, qa11, qa12⟩ := Ba1.c3
        obtain ⟨blr, qr0, qr1, qr2⟩ := Br.c3
        obtain ⟨bla, qa0, qa1, qa2⟩ := Ba.c3
        obtain ⟨blt, qt0, qt1, qt2⟩ := Bt.c3
        obtain ⟨f0, f1, f2⟩ := Br.f3
        have Lb := L
        have hbx : Below w5.heap.size w5 (w5.alloc (.cells [.int .i64 x0.P, .int .i64 (RA.length : Int), .slice Ap RP.length cp].toArray 27)) := (Below.refl _ _).alloc (Nat.le_refl _) _
        have Bp := Blk.new w5 [.int .i64 x0.P, .int .i64 (RA.length : Int), .slice Ap RP.length cp] 27
        replace L := bstep L L.size hbx
        replace Ba0 := Ba0.below hbx
        replace Ba1 := Ba1.below hbx
        replace Br := Br.below hbx
        replace Ba := Ba.below hbx
        replace Bt := Bt.below hbx
        replace K0 := Lib.hid (spMat.rd_below K0.out hbx)
        replace R0 := Lib.hid (spII.rd_below R0.out hbx)
        replace K1 := Lib.hid (spMat.rd_below K1.out hbx)
        replace R1 := Lib.hid (spII.rd_below R1.out hbx)
        replace Ka := Lib.hid (spMat.rd_below Ka.out hbx)
        replace Kt := Lib.hid (spMat.rd_below Kt.out hbx)
        replace Kp := Lib.hid (spMat.rd_below Kp.out hbx)
        replace Oa := Lib.hid (spII.own_below Oa.out hbx)
        replace Ot := Lib.hid (spII.own_below Ot.out hbx)
        replace Op := Lib.hid (spII.own_below Op.out hbx)
        clear hbx
        go_wp2_with (fail)
        refine (H4.out _ _ Kp.out).mono ?_; rintro e w6 ⟨uk, Sk, rfl, ⟨vk, Tk, rfl, ok, subk, -⟩, hSk, -, hb⟩
        clear bla0 qa00 qa01 qa02
        clear bla1 qa10 qa11 qa12
        clear blr qr0 qr1 qr2
        clear bla qa0 qa1 qa2
        clear blt qt0 qt1 qt2
        clear f0 f1 f2
        clear Lb
        obtain ⟨Ak, ck, rfl, -, -⟩ := spII.own_rd ok
        have HTk : Hid (∀ k, Tk k → w.heap.size ≤ k) := Lib.hid fun k h => by have := hSk k (subk k h); have := L.size; omega
        have Nka0 : Hid (¬ Tk w.heap.size) := Lib.hid fun h => by have := hSk _ (subk _ h); have := Ba0.lt; omega
        have Nka1 : Hid (¬ Tk (w.heap.size + 1)) := Lib.hid fun h => by have := hSk _ (subk _ h); have := Ba1.lt; omega
        have Nkr : Hid (¬ Tk (w.heap.size + 1 + 1)) := Lib.hid fun h => by have := hSk _ (subk _ h); have := Br.lt; omega
        have Nka : Hid (¬ Tk w3.heap.size) := Lib.hid fun h => by have := hSk _ (subk _ h); have := Ba.lt; omega
        have Nkt : Hid (¬ Tk w4.heap.size) := Lib.hid fun h => by have := hSk _ (subk _ h); have := Bt.lt; omega
        have Nkp : Hid (¬ Tk w5.heap.size) := Lib.hid fun h => by have := hSk _ (subk _ h); have := Bp.lt; omega
        replace L := bstep L L.size hb
        replace Ba0 := Ba0.below hb
        replace Ba1 := Ba1.below hb
        replace Br := Br.below hb
        replace Ba := Ba.below hb
        replace Bt := Bt.below hb
        replace Bp := Bp.below hb
        replace K0 := Lib.hid (spMat.rd_below K0.out hb)
        replace R0 := Lib.hid (spII.rd_below R0.out hb)
        replace K1 := Lib.hid (spMat.rd_below K1.out hb)
        replace R1 := Lib.hid (spII.rd_below R1.out hb)
        replace Ka := Lib.hid (spMat.rd_below Ka.out hb)
        replace Kt := Lib.hid (spMat.rd_below Kt.out hb)
        replace Kp := Lib.hid (spMat.rd_below Kp.out hb)
        replace Oa := Lib.hid (spII.own_below Oa.out hb)
        replace Ot := Lib.hid (spII.own_below Ot.out hb)
        replace Op := Lib.hid (spII.own_below Op.out hb)
        clear hb
        have Kk : Hid (spMat.rd w6 (.agg #[.int .i64 x0.P, .int .i64 (x1.R.length : Int), .slice Ak (RE).length ck]) ⟨x0.P, (x1.R.length : Int), RE⟩) := Lib.hid ⟨_, rfl, spII.own_rd ok⟩
        have Ok := Lib.hid ok
        clear ok subk hSk
        obtain ⟨bla0, qa00, qa01, qa02⟩ := Ba0.c3
        obtain ⟨bla1, qa10, qa11, qa12⟩ := Ba1.c3
        obtain ⟨blr, qr0, qr1, qr2⟩ := Br.c3
        obtain ⟨bla, qa0, qa1, qa2⟩ := Ba.c3
        obtain ⟨blt, qt0, qt1, qt2⟩ := Bt.c3
        obtain ⟨blp, qp0, qp1, qp2⟩ := Bp.c3
        obtain ⟨f0, f1, f2⟩ := Br.f3
        go_wp2_with (fail)
        refine bodyPost_ret (v := .tuple #[.agg #[.int .i64 x0.P, .int .i64 (x1.R.length : Int), .slice Ak RE.length ck], .int .i64 0]) (by simp [results, Try.results35, go_sem, bla0, qa00, qa01, qa02, bla1, qa10, qa11, qa12, blr, qr0, qr1, qr2, bla, qa0, qa1, qa2, blt, qt0, qt1, qt2, blp, qp0, qp1, qp2]) rfl ?_
        rw [HER.out, HEC.out]
        refine MadeC.mat (S := Tk) rfl ?_ HTk.out HCB.out ?_
        · exact spII.own_set (spII.own_set (spII.own_set (Ok.out) (p := ⟨(w.heap.size + 1 + 1), 0, none⟩) Nkr.out _) (p := ⟨(w.heap.size + 1 + 1), 1, none⟩) Nkr.out _) (p := ⟨(w.heap.size + 1 + 1), 2, none⟩) Nkr.out _
        · exact (((L).setCell (p := ⟨(w.heap.size + 1 + 1), 0, none⟩) (by simp; try omega) _).setCell (p := ⟨(w.heap.size + 1 + 1), 1, none⟩) (by simp; try omega) _).setCell (p := ⟨(w.heap.size + 1 + 1), 2, none⟩) (by simp; try omega) _
      · obtain ⟨e0, e1, e2, e3⟩ := pre_fail hk0 hk1 hc
        have HEC := Lib.hid e0
        have HER := Lib.hid e1
        obtain ⟨a1, a2, a3, a4⟩ := pre_steps0 hk0
        have an := Mat.sub_ok (ann_ok hk0)
        have H1 : Hid (∀ W u, spMat.rd W u x0 → Calls Try.prog 29 #[u] W (MadeC spMat ⟨x0.P, x0.C, Num.annR x0.P x0.R x0.C.toNat⟩ 0 W)) := Lib.hid fun W u hu => by
          have := iAnnihilator_ok u x0 W hu s0'.out
          rwa [a1, a2] at this
        have H2 : Hid (∀ W u, spMat.rd W u ⟨x0.P, x0.C, Num.annR x0.P x0.R x0.C.toNat⟩ → Calls Try.prog 71 #[u] W (MadeC spMat ⟨x0.P, (Num.annR x0.P x0.R x0.C.toNat).length, Num.transR (Num.annR x0.P x0.R x0.C.toNat) x0.C.toNat⟩ 0 W)) := Lib.hid fun W u hu => by
          have := iTransposeMatrix_ok u _ W hu (Mat.ok_sz an)
          rwa [a3, a4] at this
        have H3 : Hid (∀ W u v, spMat.rd W u x1 → spMat.rd W v ⟨x0.P, (Num.annR x0.P x0.R x0.C.toNat).length, Num.transR (Num.annR x0.P x0.R x0.C.toNat) x0.C.toNat⟩ → Calls Try.prog 79 #[u, v] W (MadeC spMat ⟨0, 0, []⟩ 2 W)) := Lib.hid fun W u v hu hv => by
          have := iMatrixProduct_ok u x1 v _ W hu hv s1'.out (Mat.ok_sz (trans_ok an))
          rwa [e2, e3] at this
        clear e0 e1 e2 e3 a1 a2 a3 a4 an hk0 hk1 hc
        generalize Num.transR (Num.annR x0.P x0.R x0.C.toNat) x0.C.toNat = RT at *
        generalize Num.annR x0.P x0.R x0.C.toNat = RA at *
        go_enter Try.func35, Try.ntmps35
        go_wp2_with (fail)
        refine (HC.out).mono ?_; rintro e w1 ⟨rfl, hb⟩
        replace L := bstep L L.size hb
        replace Ba0 := Ba0.below hb
        replace Ba1 := Ba1.below hb
        replace Br := Br.below hb
        replace K0 := Lib.hid (spMat.rd_below K0.out hb)
        replace R0 := Lib.hid (spII.rd_below R0.out hb)
        replace K1 := Lib.hid (spMat.rd_below K1.out hb)
        replace R1 := Lib.hid (spII.rd_below R1.out hb)
        clear hb
        obtain ⟨bla0, qa00, qa01, qa02⟩ := Ba0.c3
        obtain ⟨bla1, qa10, qa11, qa12⟩ := Ba1.c3
        obtain ⟨blr, qr0, qr1, qr2⟩ := Br.c3
        obtain ⟨f0, f1, f2⟩ := Br.f3
        go_wp2_with (fail)
        refine (isMat_yes _ x1 _ K1.out HK1.out).mono ?_; rintro e w2 ⟨rfl, hb⟩
        clear bla0 qa00 qa01 qa02
        clear bla1 qa10 qa11 qa12
        clear blr qr0 qr1 qr2
        clear f0 f1 f2
        replace L := bstep L L.size hb
        replace Ba0 := Ba0.below hb
        replace Ba1 := Ba1.below hb
        replace Br := Br.below hb
        replace K0 := Lib.hid (spMat.rd_below K0.out hb)
        replace R0 := Lib.hid (spII.rd_below R0.out hb)
        replace K1 := Lib.hid (spMat.rd_below K1.out hb)
        replace R1 := Lib.hid (spII.rd_below R1.out hb)
        clear hb
        obtain ⟨bla0, qa00, qa01, qa02⟩ := Ba0.c3
        obtain ⟨bla1, qa10, qa11, qa12⟩ := Ba1.c3
        obtain ⟨blr, qr0, qr1, qr2⟩ := Br.c3
        obtain ⟨f0, f1, f2⟩ := Br.f3
        go_wp2_with (fail)
        refine (H1.out _ _ K0.out).mono ?_; rintro e w3 ⟨ua, Sa, rfl, ⟨va, Ta, rfl, oa, suba, -⟩, hSa, -, hb⟩
        clear bla0 qa00 qa01 qa02
        clear bla1 qa10 qa11 qa12
        clear blr qr0 qr1 qr2
        clear f0 f1 f2
        obtain ⟨Aa, ca, rfl, -, -⟩ := spII.own_rd oa
        have HTa : Hid (∀ k, Ta k → w.heap.size ≤ k) := Lib.hid fun k h => by have := hSa k (suba k h); have := L.size; omega
        have Naa0 : Hid (¬ Ta w.heap.size) := Lib.hid fun h => by have := hSa _ (suba _ h); have := Ba0.lt; omega
        have Naa1 : Hid (¬ Ta (w.heap.size + 1)) := Lib.hid fun h => by have := hSa _ (suba _ h); have := Ba1.lt; omega
        have Nar : Hid (¬ Ta (w.heap.size + 1 + 1)) := Lib.hid fun h => by have := hSa _ (suba _ h); have := Br.lt; omega
        replace L := bstep L L.size hb
        replace Ba0 := Ba0.below hb
        replace Ba1 := Ba1.below hb
        replace Br := Br.below hb
        replace K0 := Lib.hid (spMat.rd_below K0.out hb)
        replace R0 := Lib.hid (spII.rd_below R0.out hb)
        replace K1 := Lib.hid (spMat.rd_below K1.out hb)
        replace R1 := Lib.hid (spII.rd_below R1.out hb)
        clear hb
        have Ka : Hid (spMat.rd w3 (.agg #[.int .i64 x0.P, .int .i64 x0.C, .slice Aa (RA).length ca]) ⟨x0.P, x0.C, RA⟩) := Lib.hid ⟨_, rfl, spII.own_rd oa⟩
        have Oa := Lib.hid oa
        clear oa suba hSa
        obtain ⟨bla0, qa00, qa01, qa02⟩ := Ba0.c3
        obtain ⟨bla1, qa10, qa11, qa12⟩ := Ba1.c3
        obtain ⟨blr, qr0, qr1, qr2⟩ := Br.c3
        obtain ⟨f0, f1, f2⟩ := Br.f3
        have Lb := L
        have hbx : Below w3.heap.size w3 (w3.alloc (.cells [.int .i64 x0.P, .int .i64 x0.C, .slice Aa RA.length ca].toArray 27)) := (Below.refl _ _).alloc (Nat.le_refl _) _
        have Ba := Blk.new w3 [.int .i64 x0.P, .int .i64 x0.C, .slice Aa RA.length ca] 27
        replace L := bstep L L.size hbx
        replace Ba0 := Ba0.below hbx
        replace Ba1 := Ba1.below hbx
        replace Br := Br.below hbx
        replace K0 := Lib.hid (spMat.rd_below K0.out hbx)
        replace R0 := Lib.hid (spII.rd_below R0.out hbx)
        replace K1 := Lib.hid (spMat.rd_below K1.out hbx)
        replace R1 := Lib.hid (spII.rd_below R1.out hbx)
        replace Ka := Lib.hid (spMat.rd_below Ka.out hbx)
        replace Oa := Lib.hid (spII.own_below Oa.out hbx)
        clear hbx
        go_wp2_with (fail)
        refine (H2.out _ _ Ka.out).mono ?_; rintro e w4 ⟨ut, St, rfl, ⟨vt, Tt, rfl, ot, subt, -⟩, hSt, -, hb⟩
        clear bla0 qa00 qa01 qa02
        clear bla1 qa10 qa11 qa12
        clear blr qr0 qr1 qr2
        clear f0 f1 f2
        clear Lb
        obtain ⟨At, ct, rfl, -, -⟩ := spII.own_rd ot
        have HTt : Hid (∀ k, Tt k → w.heap.size ≤ k) := Lib.hid fun k h => by have := hSt k (subt k h); have := L.size; omega
        have Nta0 : Hid (¬ Tt w.heap.size) := Lib.hid fun h => by have := hSt _ (subt _ h); have := Ba0.lt; omega
        have Nta1 : Hid (¬ Tt (w.heap.size + 1)) := Lib.hid fun h => by have := hSt _ (subt _ h); have := Ba1.lt; omega
        have Ntr : Hid (¬ Tt (w.heap.size + 1 + 1)) := Lib.hid fun h => by have := hSt _ (subt _ h); have := Br.lt; omega
        have Nta : Hid (¬ Tt w3.heap.size) := Lib.hid fun h => by have := hSt _ (subt _ h); have := Ba.lt; omega
        replace L := bstep L L.size hb
        replace Ba0 := Ba0.below hb
        replace Ba1 := Ba1.below hb
        replace Br := Br.below hb
        replace Ba := Ba.below hb
        replace K0 := Lib.hid (spMat.rd_below K0.out hb)
        replace R0 := Lib.hid (spII.rd_below R0.out hb)
        replace K1 := Lib.hid (spMat.rd_below K1.out hb)
        replace R1 := Lib.hid (spII.rd_below R1.out hb)
        replace Ka := Lib.hid (spMat.rd_below Ka.out hb)
        replace Oa := Lib.hid (spII.own_below Oa.out hb)
        clear hb
        have Kt : Hid (spMat.rd w4 (.agg #[.int .i64 x0.P, .int .i64 (RA.length : Int), .slice At (RT).length ct]) ⟨x0.P, (RA.length : Int), RT⟩) := Lib.hid ⟨_, rfl, spII.own_rd ot⟩
        have Ot := Lib.hid ot
        clear ot subt hSt
        obtain ⟨bla0, qa00, qa01, qa02⟩ := Ba0.c3
        obtain ⟨bla1, qa10, qa11, qa12⟩ := Ba1.c3
        obtain ⟨blr, qr0, qr1, qr2⟩ := Br.c3
        obtain ⟨bla, qa0, qa1, qa2⟩ := Ba.c3
        obtain ⟨f0, f1, f2⟩ := Br.f3
        have Lb := L
        have hbx : Below w4.heap.size w4 (w4.alloc (.cells [.int .i64 x0.P, .int .i64 (RA.length : Int), .slice At RT.length ct].toArray 27)) := (Below.refl _ _).alloc (Nat.le_refl _) _
        have Bt := Blk.new w4 [.int .i64 x0.P, .int .i64 (RA.length : Int), .slice At RT.length ct] 27
        replace L := bstep L L.size hbx
        replace Ba0 := Ba0.below hbx
        replace Ba1 := Ba1.below hbx
        replace Br := Br.below hbx
        replace Ba := Ba.below hbx
        replace K0 := Lib.hid (spMat.rd_below K0.out hbx)
        replace R0 := Lib.hid (spII.rd_below R0.out hbx)
        replace K1 := Lib.hid (spMat.rd_below K1.out hbx)
        replace R1 := Lib.hid (spII.rd_below R1.out hbx)
        replace Ka := Lib.hid (spMat.rd_below Ka.out hbx)
        replace Kt := Lib.hid (spMat.rd_below Kt.out hbx)
        replace Oa := Lib.hid (spII.own_below Oa.out hbx)
        replace Ot := Lib.hid (spII.own_below Ot.out hbx)
        clear hbx
        go_wp2_with (fail)
        refine (H3.out _ _ _ K1.out Kt.out).mono ?_; rintro e w5 ⟨up, Sp, rfl, ⟨vp, Tp, rfl, op, subp, -⟩, hSp, -, hb⟩
        clear bla0 qa00 qa01 qa02
        clear bla1 qa10 qa11 qa12
        clear blr qr0 qr1 qr2
        clear bla qa0 qa1 qa2
        clear f0 f1 f2
        clear Lb
        obtain ⟨Ap, cp, rfl, -, -⟩ := spII.own_rd op
        have HTp : Hid (∀ k, Tp k → w.heap.size ≤ k) := Lib.hid fun k h => by have := hSp k (subp k h); have := L.size; omega
        have Npa0 : Hid (¬ Tp w.heap.size) := Lib.hid fun h => by have := hSp _ (subp _ h); have := Ba0.lt; omega
        have Npa1 : Hid (¬ Tp (w.heap.size + 1)) := Lib.hid fun h => by have := hSp _ (subp _ h); have := Ba1.lt; omega
        have Npr : Hid (¬ Tp (w.heap.size + 1 + 1)) := Lib.hid fun h => by have := hSp _ (subp _ h); have := Br.lt; omega
        have Npa : Hid (¬ Tp w3.heap.size) := Lib.hid fun h => by have := hSp _ (subp _ h); have := Ba.lt; omega
        have Npt : Hid (¬ Tp w4.heap.size) := Lib.hid fun h => by have := hSp _ (subp _ h); have := Bt.lt; omega
        replace L := bstep L L.size hb
        replace Ba0 := Ba0.below hb
        replace Ba1 := Ba1.below hb
        replace Br := Br.below hb
        replace Ba := Ba.below hb
        replace Bt := Bt.below hb
        replace K0 := Lib.hid (spMat.rd_below K0.out hb)
        replace R0 := Lib.hid (spII.rd_below R0.out hb)
        replace K1 := Lib.hid (spMat.rd_below K1.out hb)
        replace R1 := Lib.hid (spII.rd_below R1.out hb)
        replace Ka := Lib.hid (spMat.rd_below Ka.out hb)
        replace Kt := Lib.hid (spMat.rd_below Kt.out hb)
        replace Oa := Lib.hid (spII.own_below Oa.out hb)
        replace Ot := Lib.hid (spII.own_below Ot.out hb)
        clear hb
        have Kp : Hid (spMat.rd w5 (.agg #[.int .i64 0, .int .i64 0, .slice Ap (([] : List (List Int))).length cp]) ⟨0, 0, ([] : List (List Int))⟩) := Lib.hid ⟨_, rfl, spII.own_rd op⟩
        have Op := Lib.hid op
        clear op subp hSp
        obtain ⟨bla0, qa00, qa01, qa02⟩ := Ba0.c3
        obtain ⟨bla1, qa10, qa11, qa12⟩ := Ba1.c3
        obtain ⟨blr, qr0, qr1, qr2⟩ := Br.c3
        obtain ⟨bla, qa0, qa1, qa2⟩ := Ba.c3
        obtain ⟨blt, qt0, qt1, qt2⟩ := Bt.c3
        obtain ⟨f0, f1, f2⟩ := Br.f3
        have Lb := L
        have hbx : Below w5.heap.size w5 (w5.alloc (.cells [.int .i64 0, .int .i64 0, .slice Ap (([] : List (List Int))).length cp].toArray 27)) := (Below.refl _ _).alloc (Nat.le_refl _) _
        have Bp := Blk.new w5 [.int .i64 0, .int .i64 0, .slice Ap (([] : List (List Int))).length cp] 27
        replace L := bstep L L.size hbx
        replace Ba0 := Ba0.below hbx
        replace Ba1 := Ba1.below hbx
        replace Br := Br.below hbx
        replace Ba := Ba.below hbx
        replace Bt := Bt.below hbx
        replace K0 := Lib.hid (spMat.rd_below K0.out hbx)
        replace R0 := Lib.hid (spII.rd_below R0.out hbx)
        replace K1 := Lib.hid (spMat.rd_below K1.out hbx)
        replace R1 := Lib.hid (spII.rd_below R1.out hbx)
        replace Ka := Lib.hid (spMat.rd_below Ka.out hbx)
        replace Kt := Lib.hid (spMat.rd_below Kt.out hbx)
        replace Kp := Lib.hid (spMat.rd_below Kp.out hbx)
        replace Oa := Lib.hid (spII.own_below Oa.out hbx)
        replace Ot := Lib.hid (spII.own_below Ot.out hbx)
        replace Op := Lib.hid (spII.own_below Op.out hbx)
        clear hbx
        go_wp2_with (fail)
        refine bodyPost_ret (v := .tuple #[.agg #[.int .i64 0, .int .i64 0, .slice none 0 0], .int .i64 2]) (by simp [results, Try.results35, go_sem, bla0, qa00, qa01, qa02, bla1, qa10, qa11, qa12, blr, qr0, qr1, qr2, bla, qa0, qa1, qa2, blt, qt0, qt1, qt2]) rfl ?_
        rw [HER.out, HEC.out]
        exact MadeC.none rfl (((((Lb).setCell (p := ⟨(w.heap.size + 1 + 1), 0, none⟩) (by simp; try omega) _).setCell (p := ⟨(w.heap.size + 1 + 1), 1, none⟩) (by simp; try omega) _).setCell (p := ⟨(w.heap.size + 1 + 1), 2, none⟩) (by simp; try omega) _).alloc (by have := Lb.size; simp; omega) _)
end Go.Proofs.Ytggkoihlmijacaa
