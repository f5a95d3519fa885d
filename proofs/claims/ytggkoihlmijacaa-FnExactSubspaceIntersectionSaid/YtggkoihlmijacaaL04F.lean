/- The program's ImageSubspace. -/
import Derived.Test.YtggkoihlmijacaaL04E
import Derived.Test.YtggkoihlmijacaaL02W
import Derived.Test.YtggkoihlmijacaaL03B
namespace Go.Proofs.Ytggkoihlmijacaa
open Go.RowKit
set_option linter.unusedVariables false
set_option linter.unusedSimpArgs false

set_option maxRecDepth 100000 in
set_option maxHeartbeats 2000000 in
theorem iImageSubspace_ok (v0 : Value) (x0 : Mat) (v1 : Value) (x1 : Mat) (w : World) (h0 : spMat.rd w v0 x0) (h1 : spMat.rd w v1 x1) (s0 : spMat.sz x0 ≤ 1048576) (s1 : spMat.sz x1 ≤ 1048576) : Calls Try.prog 33 #[v0, v1] w (MadeC spMat (rImageSubspace x0 x1) (cImageSubspace x0 x1) w) := by
  obtain ⟨A0, n0, c0, rfl, r0⟩ := spMat_form h0
  obtain ⟨rfl, -, -, -⟩ := rdII_of r0
  obtain ⟨A1, n1, c1, rfl, r1⟩ := spMat_form h1
  obtain ⟨rfl, -, -, -⟩ := rdII_of r1
  have L : Below w.heap.size w (((w.alloc (.cells [.int .i64 x0.P, .int .i64 x0.C, .slice A0 x0.R.length c0].toArray 27)).alloc (.cells [.int .i64 x1.P, .int .i64 x1.C, .slice A1 x1.R.length c1].toArray 27)).alloc (.cells [.int .i64 0, .int .i64 0, .slice none 0 0].toArray 27)) := by go_grown
  have Ba0 : Blk (((w.alloc (.cells [.int .i64 x0.P, .int .i64 x0.C, .slice A0 x0.R.length c0].toArray 27)).alloc (.cells [.int .i64 x1.P, .int .i64 x1.C, .slice A1 x1.R.length c1].toArray 27)).alloc (.cells [.int .i64 0, .int .i64 0, .slice none 0 0].toArray 27)) w.heap.size [.int .i64 x0.P, .int .i64 x0.C, .slice A0 x0.R.length c0] 27 := by have := ((Blk.new w [.int .i64 x0.P, .int .i64 x0.C, .slice A0 x0.R.length c0] 27).alloc (.cells [.int .i64 x1.P, .int .i64 x1.C, .slice A1 x1.R.length c1].toArray 27)).alloc (.cells [.int .i64 0, .int .i64 0, .slice none 0 0].toArray 27); simpa only [World.size_alloc] using this
  have Ba1 : Blk (((w.alloc (.cells [.int .i64 x0.P, .int .i64 x0.C, .slice A0 x0.R.length c0].toArray 27)).alloc (.cells [.int .i64 x1.P, .int .i64 x1.C, .slice A1 x1.R.length c1].toArray 27)).alloc (.cells [.int .i64 0, .int .i64 0, .slice none 0 0].toArray 27)) (w.heap.size + 1) [.int .i64 x1.P, .int .i64 x1.C, .slice A1 x1.R.length c1] 27 := by have := (Blk.new (w.alloc (.cells [.int .i64 x0.P, .int .i64 x0.C, .slice A0 x0.R.length c0].toArray 27)) [.int .i64 x1.P, .int .i64 x1.C, .slice A1 x1.R.length c1] 27).alloc (.cells [.int .i64 0, .int .i64 0, .slice none 0 0].toArray 27); simpa only [World.size_alloc] using this
  have Br : Blk (((w.alloc (.cells [.int .i64 x0.P, .int .i64 x0.C, .slice A0 x0.R.length c0].toArray 27)).alloc (.cells [.int .i64 x1.P, .int .i64 x1.C, .slice A1 x1.R.length c1].toArray 27)).alloc (.cells [.int .i64 0, .int .i64 0, .slice none 0 0].toArray 27)) (w.heap.size + 1 + 1) [.int .i64 0, .int .i64 0, .slice none 0 0] 27 := by have := Blk.new ((w.alloc (.cells [.int .i64 x0.P, .int .i64 x0.C, .slice A0 x0.R.length c0].toArray 27)).alloc (.cells [.int .i64 x1.P, .int .i64 x1.C, .slice A1 x1.R.length c1].toArray 27)) [.int .i64 0, .int .i64 0, .slice none 0 0] 27; simpa only [World.size_alloc] using this
  have K0 := Lib.hid (spMat.rd_below h0 L)
  have R0 := Lib.hid (spII.rd_below r0 L)
  clear h0 r0
  have K1 := Lib.hid (spMat.rd_below h1 L)
  have R1 := Lib.hid (spII.rd_below r1 L)
  clear h1 r1
  cases hk0 : x0.sub with
  | false =>
    have HEC := Lib.hid (image_bad1 (a := x1) hk0).1
    have HER := Lib.hid (image_bad1 (a := x1) hk0).2
    have HC := Lib.hid (isSub_no _ x0 _ K0.out hk0)
    clear hk0
    go_enter Try.func33, Try.ntmps33
    go_wp2_with (fail)
    refine (HC.out).mono ?_; rintro e w1 ⟨rfl, hb⟩
    replace L := bstep L L.size hb
    replace Ba0 := Ba0.below hb
    replace Ba1 := Ba1.below hb
    replace Br := Br.below hb
    replace K0 := Lib.hid (spMat.rd_below K0.out hb)
    replace R0 := Lib.hid (spII.rd_below R0.out hb)
    replace K1 := Lib.hid (spMat.rd_below K1.out hb)
    replace R1 := Lib.hid (spII.rd_below R1.out hb)
    clear hb
    obtain ⟨bla0, qa00, qa01, qa02⟩ := Ba0.c3
    obtain ⟨bla1, qa10, qa11, qa12⟩ := Ba1.c3
    obtain ⟨blr, qr0, qr1, qr2⟩ := Br.c3
    obtain ⟨f0, f1, f2⟩ := Br.f3
    go_wp2_with (fail)
    refine bodyPost_ret (v := .tuple #[.agg #[.int .i64 0, .int .i64 0, .slice none 0 0], .int .i64 1]) (by simp [results, Try.results33, go_sem, bla0, qa00, qa01, qa02, bla1, qa10, qa11, qa12, blr, qr0, qr1, qr2]) rfl ?_
    rw [HER.out, HEC.out]
    exact MadeC.none rfl ((((L).setCell (p := ⟨(w.heap.size + 1 + 1), 0, none⟩) (by simp; try omega) _).setCell (p := ⟨(w.heap.size + 1 + 1), 1, none⟩) (by simp; try omega) _).setCell (p := ⟨(w.heap.size + 1 + 1), 2, none⟩) (by simp; try omega) _)
  | true =>
    have HC := Lib.hid (isSub_yes _ x0 _ K0.out hk0)
    cases hk1 : x1.ok with
    | false =>
      have HEC := Lib.hid (image_bad2 (u := x0) hk1).1
      have HER := Lib.hid (image_bad2 (u := x0) hk1).2
      have HK1 := Lib.hid hk1
      clear hk0 hk1
      go_enter Try.func33, Try.ntmps33
      go_wp2_with (fail)
      refine (HC.out).mono ?_; rintro e w1 ⟨rfl, hb⟩
      replace L := bstep L L.size hb
      replace Ba0 := Ba0.below hb
      replace Ba1 := Ba1.below hb
      replace Br := Br.below hb
      replace K0 := Lib.hid (spMat.rd_below K0.out hb)
      replace R0 := Lib.hid (spII.rd_below R0.out hb)
      replace K1 := Lib.hid (spMat.rd_below K1.out hb)
      replace R1 := Lib.hid (spII.rd_below R1.out hb)
      clear hb
      obtain ⟨bla0, qa00, qa01, qa02⟩ := Ba0.c3
      obtain ⟨bla1, qa10, qa11, qa12⟩ := Ba1.c3
      obtain ⟨blr, qr0, qr1, qr2⟩ := Br.c3
      obtain ⟨f0, f1, f2⟩ := Br.f3
      go_wp2_with (fail)
      refine (isMat_no _ x1 _ K1.out HK1.out).mono ?_; rintro e w2 ⟨rfl, hb⟩
      clear bla0 qa00 qa01 qa02
      clear bla1 qa10 qa11 qa12
      clear blr qr0 qr1 qr2
      clear f0 f1 f2
      replace L := bstep L L.size hb
      replace Ba0 := Ba0.below hb
      replace Ba1 := Ba1.below hb
      replace Br := Br.below hb
      replace K0 := Lib.hid (spMat.rd_below K0.out hb)
      replace R0 := Lib.hid (spII.rd_below R0.out hb)
      replace K1 := Lib.hid (spMat.rd_below K1.out hb)
      replace R1 := Lib.hid (spII.rd_below R1.out hb)
      clear hb
      obtain ⟨bla0, qa00, qa01, qa02⟩ := Ba0.c3
      obtain ⟨bla1, qa10, qa11, qa12⟩ := Ba1.c3
      obtain ⟨blr, qr0, qr1, qr2⟩ := Br.c3
      obtain ⟨f0, f1, f2⟩ := Br.f3
      go_wp2_with (fail)
      refine bodyPost_ret (v := .tuple #[.agg #[.int .i64 0, .int .i64 0, .slice none 0 0], .int .i64 1]) (by simp [results, Try.results33, go_sem, bla0, qa00, qa01, qa02, bla1, qa10, qa11, qa12, blr, qr0, qr1, qr2]) rfl ?_
      rw [HER.out, HEC.out]
      exact MadeC.none rfl ((((L).setCell (p := ⟨(w.heap.size + 1 + 1), 0, none⟩) (by simp; try omega) _).setCell (p := ⟨(w.heap.size + 1 + 1), 1, none⟩) (by simp; try omega) _).setCell (p := ⟨(w.heap.size + 1 + 1), 2, none⟩) (by simp; try omega) _)
    | true =>
      have HK1 := Lib.hid hk1
      have s0' := Lib.hid (Mat.ok_sz (Mat.sub_ok hk0))
      have s1' := Lib.hid (Mat.ok_sz hk1)
      by_cases hc : cImageSubspace x0 x1 = 0
      · obtain ⟨e1, e2, e3, e4⟩ := image_yes hc
        have hi := image_sub hc
        have er : rImageSubspace x0 x1 = ⟨x0.P, x1.C, Num.reduceR x0.P (Num.prodR x0.P x0.R x1.R x1.C.toNat)⟩ := by unfold rImageSubspace; rw [if_pos hc]
        rw [er] at e4 hi
        obtain ⟨g1, -, -, -, -, g6, -⟩ := Mat.sub_out hk0
        obtain ⟨-, -, -, k4, k5, -, -⟩ := Mat.ok_out hk1
        have hpk := prod_ok (R := x0.R) (S := x1.R) g1 k4 k5 g6
        have HEC := Lib.hid hc
        have HER := Lib.hid er
        have HCB : Hid (spMat.cnt ⟨x0.P, x1.C, Num.reduceR x0.P (Num.prodR x0.P x0.R x1.R x1.C.toNat)⟩ ≤ 1000000000) := Lib.hid (Mat.ok_cnt (Mat.sub_ok hi))
        have H1 : Hid (∀ W u v, spMat.rd W u x0 → spMat.rd W v x1 → Calls Try.prog 79 #[u, v] W (MadeC spMat ⟨x0.P, x1.C, Num.prodR x0.P x0.R x1.R x1.C.toNat⟩ 0 W)) := Lib.hid fun W u v hu hv => by
          have := iMatrixProduct_ok u x0 v x1 W hu hv s0'.out s1'.out
          rwa [e1, e2] at this
        have H2 : Hid (∀ W u, spMat.rd W u ⟨x0.P, x1.C, Num.prodR x0.P x0.R x1.R x1.C.toNat⟩ → Calls Try.prog 80 #[u] W (MadeC spMat ⟨x0.P, x1.C, Num.reduceR x0.P (Num.prodR x0.P x0.R x1.R x1.C.toNat)⟩ 0 W)) := Lib.hid fun W u hu => by
          have := iReduceRows_ok u _ W hu (Mat.ok_sz hpk)
          rwa [e3, e4] at this
        clear e1 e2 e3 e4 hk0 hk1 hc hi er g1 g6 k4 k5 hpk
        generalize Num.reduceR x0.P (Num.prodR x0.P x0.R x1.R x1.C.toNat) = RE at *
        generalize Num.prodR x0.P x0.R x1.R x1.C.toNat = RP at *
        go_enter Try.func33, Try.ntmps33
        go_wp2_with (fail)
        refine (HC.out).mono ?_; rintro e w1 ⟨rfl, hb⟩
        replace L := bstep L L.size hb
        replace Ba0 := Ba0.below hb
        replace Ba1 := Ba1.below hb
        replace Br := Br.below hb
        replace K0 := Lib.hid (spMat.rd_below K0.out hb)
        replace R0 := Lib.hid (spII.rd_below R0.out hb)
        replace K1 := Lib.hid (spMat.rd_below K1.out hb)
        replace R1 := Lib.hid (spII.rd_below R1.out hb)
        clear hb
        obtain ⟨bla0, qa00, qa01, qa02⟩ := Ba0.c3
        obtain ⟨bla1, qa10, qa11, qa12⟩ := Ba1.c3
        obtain ⟨blr, qr0, qr1, qr2⟩ := Br.c3
        obtain ⟨f0, f1, f2⟩ := Br.f3
        go_wp2_with (fail)
        refine (isMat_yes _ x1 _ K1.out HK1.out).mono ?_; rintro e w2 ⟨rfl, hb⟩
        clear bla0 qa00 qa01 qa02
        clear bla1 qa10 qa11 qa12
        clear blr qr0 qr1 qr2
        clear f0 f1 f2
        replace L := bstep L L.size hb
        replace Ba0 := Ba0.below hb
        replace Ba1 := Ba1.below hb
        replace Br := Br.below hb
        replace K0 := Lib.hid (spMat.rd_below K0.out hb)
        replace R0 := Lib.hid (spII.rd_below R0.out hb)
        replace K1 := Lib.hid (spMat.rd_below K1.out hb)
        replace R1 := Lib.hid (spII.rd_below R1.out hb)
        clear hb
        obtain ⟨bla0, qa00, qa01, qa02⟩ := Ba0.c3
        obtain ⟨bla1, qa10, qa11, qa12⟩ := Ba1.c3
        obtain ⟨blr, qr0, qr1, qr2⟩ := Br.c3
        obtain ⟨f0, f1, f2⟩ := Br.f3
        go_wp2_with (fail)
        refine (H1.out _ _ _ K0.out K1.out).mono ?_; rintro e w3 ⟨up, Sp, rfl, ⟨vp, Tp, rfl, op, subp, -⟩, hSp, -, hb⟩
        clear bla0 qa00 qa01 qa02
        clear bla1 qa10 qa11 qa12
        clear blr qr0 qr1 qr2
        clear f0 f1 f2
        obtain ⟨Ap, cp, rfl, -, -⟩ := spII.own_rd op
        have HTp : Hid (∀ k, Tp k → w.heap.size ≤ k) := Lib.hid fun k h => by have := hSp k (subp k h); have := L.size; omega
        have Npa0 : Hid (¬ Tp w.heap.size) := Lib.hid fun h => by have := hSp _ (subp _ h); have := Ba0.lt; omega
        have Npa1 : Hid (¬ Tp (w.heap.size + 1)) := Lib.hid fun h => by have := hSp _ (subp _ h); have := Ba1.lt; omega
        have Npr : Hid (¬ Tp (w.heap.size + 1 + 1)) := Lib.hid fun h => by have := hSp _ (subp _ h); have := Br.lt; omega
        replace L := bstep L L.size hb
        replace Ba0 := Ba0.below hb
        replace Ba1 := Ba1.below hb
        replace Br := Br.below hb
        replace K0 := Lib.hid (spMat.rd_below K0.out hb)
        replace R0 := Lib.hid (spII.rd_below R0.out hb)
        replace K1 := Lib.hid (spMat.rd_below K1.out hb)
        replace R1 := Lib.hid (spII.rd_below R1.out hb)
        clear hb
        have Kp : Hid (spMat.rd w3 (.agg #[.int .i64 x0.P, .int .i64 x1.C, .slice Ap (RP).length cp]) ⟨x0.P, x1.C, RP⟩) := Lib.hid ⟨_, rfl, spII.own_rd op⟩
        have Op := Lib.hid op
        clear op subp hSp
        obtain ⟨bla0, qa00, qa01, qa02⟩ := Ba0.c3
        obtain ⟨bla1, qa10, qa11, qa12⟩ := Ba1.c3
        obtain ⟨blr, qr0, qr1, qr2⟩ := Br.c3
        obtain ⟨f0, f1, f2⟩ := Br.f3
        have Lb := L
        have hbx : Below w3.heap.size w3 (w3.alloc (.cells [.int .i64 x0.P, .int .i64 x1.C, .slice Ap RP.length cp].toArray 27)) := (Below.refl _ _).alloc (Nat.le_refl _) _
        have Bp := Blk.new w3 [.int .i64 x0.P, .int .i64 x1.C, .slice Ap RP.length cp] 27
        replace L := bstep L L.size hbx
        replace Ba0 := Ba0.below hbx
        replace Ba1 := Ba1.below hbx
        replace Br := Br.below hbx
        replace K0 := Lib.hid (spMat.rd_below K0.out hbx)
        replace R0 := Lib.hid (spII.rd_below R0.out hbx)
        replace K1 := Lib.hid (spMat.rd_below K1.out hbx)
        replace R1 := Lib.hid (spII.rd_below R1.out hbx)
        replace Kp := Lib.hid (spMat.rd_below Kp.out hbx)
        replace Op := Lib.hid (spII.own_below Op.out hbx)
        clear hbx
        go_wp2_with (fail)
        refine (H2.out _ _ Kp.out).mono ?_; rintro e w4 ⟨uk, Sk, rfl, ⟨vk, Tk, rfl, ok, subk, -⟩, hSk, -, hb⟩
        clear bla0 qa00 qa01 qa02
        clear bla1 qa10 qa11 qa12
        clear blr qr0 qr1 qr2
        clear f0 f1 f2
        clear Lb
        obtain ⟨Ak, ck, rfl, -, -⟩ := spII.own_rd ok
        have HTk : Hid (∀ k, Tk k → w.heap.size ≤ k) := Lib.hid fun k h => by have := hSk k (subk k h); have := L.size; omega
        have Nka0 : Hid (¬ Tk w.heap.size) := Lib.hid fun h => by have := hSk _ (subk _ h); have := Ba0.lt; omega
        have Nka1 : Hid (¬ Tk (w.heap.size + 1)) := Lib.hid fun h => by have := hSk _ (subk _ h); have := Ba1.lt; omega
        have Nkr : Hid (¬ Tk (w.heap.size + 1 + 1)) := Lib.hid fun h => by have := hSk _ (subk _ h); have := Br.lt; omega
        have Nkp : Hid (¬ Tk w3.heap.size) := Lib.hid fun h => by have := hSk _ (subk _ h); have := Bp.lt; omega
        replace L := bstep L L.size hb
        replace Ba0 := Ba0.below hb
        replace Ba1 := Ba1.below hb
        replace Br := Br.below hb
        replace Bp := Bp.below hb
        replace K0 := Lib.hid (spMat.rd_below K0.out hb)
        replace R0 := Lib.hid (spII.rd_below R0.out hb)
        replace K1 := Lib.hid (spMat.rd_below K1.out hb)
        replace R1 := Lib.hid (spII.rd_below R1.out hb)
        replace Kp := Lib.hid (spMat.rd_below Kp.out hb)
        replace Op := Lib.hid (spII.own_below Op.out hb)
        clear hb
        have Kk : Hid (spMat.rd w4 (.agg #[.int .i64 x0.P, .int .i64 x1.C, .slice Ak (RE).length ck]) ⟨x0.P, x1.C, RE⟩) := Lib.hid ⟨_, rfl, spII.own_rd ok⟩
        have Ok := Lib.hid ok
        clear ok subk hSk
        obtain ⟨bla0, qa00, qa01, qa02⟩ := Ba0.c3
        obtain ⟨bla1, qa10, qa11, qa12⟩ := Ba1.c3
        obtain ⟨blr, qr0, qr1, qr2⟩ := Br.c3
        obtain ⟨blp, qp0, qp1, qp2⟩ := Bp.c3
        obtain ⟨f0, f1, f2⟩ := Br.f3
        go_wp2_with (fail)
        refine bodyPost_ret (v := .tuple #[.agg #[.int .i64 x0.P, .int .i64 x1.C, .slice Ak RE.length ck], .int .i64 0]) (by simp [results, Try.results33, go_sem, bla0, qa00, qa01, qa02, bla1, qa10, qa11, qa12, blr, qr0, qr1, qr2, blp, qp0, qp1, qp2]) rfl ?_
        rw [HER.out, HEC.out]
        refine MadeC.mat (S := Tk) rfl ?_ HTk.out HCB.out ?_
        · exact spII.own_set (spII.own_set (spII.own_set (Ok.out) (p := ⟨(w.heap.size + 1 + 1), 0, none⟩) Nkr.out _) (p := ⟨(w.heap.size + 1 + 1), 1, none⟩) Nkr.out _) (p := ⟨(w.heap.size + 1 + 1), 2, none⟩) Nkr.out _
        · exact (((L).setCell (p := ⟨(w.heap.size + 1 + 1), 0, none⟩) (by simp; try omega) _).setCell (p := ⟨(w.heap.size + 1 + 1), 1, none⟩) (by simp; try omega) _).setCell (p := ⟨(w.heap.size + 1 + 1), 2, none⟩) (by simp; try omega) _
      · obtain ⟨e0, e1, e2, e3⟩ := image_no hk0 hk1 hc
        have HEC := Lib.hid e0
        have HER := Lib.hid e1
        have H1 : Hid (∀ W u v, spMat.rd W u x0 → spMat.rd W v x1 → Calls Try.prog 79 #[u, v] W (MadeC spMat ⟨0, 0, []⟩ 2 W)) := Lib.hid fun W u v hu hv => by
          have := iMatrixProduct_ok u x0 v x1 W hu hv s0'.out s1'.out
          rwa [e2, e3] at this
        clear e0 e1 e2 e3 hk0 hk1 hc
        go_enter Try.func33, Try.ntmps33
        go_wp2_with (fail)
        refine (HC.out).mono ?_; rintro e w1 ⟨rfl, hb⟩
        replace L := bstep L L.size hb
        replace Ba0 := Ba0.below hb
        replace Ba1 := Ba1.below hb
        replace Br := Br.below hb
        replace K0 := Lib.hid (spMat.rd_below K0.out hb)
        replace R0 := Lib.hid (spII.rd_below R0.out hb)
        replace K1 := Lib.hid (spMat.rd_below K1.out hb)
        replace R1 := Lib.hid (spII.rd_below R1.out hb)
        clear hb
        obtain ⟨bla0, qa00, qa01, qa02⟩ := Ba0.c3
        obtain ⟨bla1, qa10, qa11, qa12⟩ := Ba1.c3
        obtain ⟨blr, qr0, qr1, qr2⟩ := Br.c3
        obtain ⟨f0, f1, f2⟩ := Br.f3
        go_wp2_with (fail)
        refine (isMat_yes _ x1 _ K1.out HK1.out).mono ?_; rintro e w2 ⟨rfl, hb⟩
        clear bla0 qa00 qa01 qa02
        clear bla1 qa10 qa11 qa12
        clear blr qr0 qr1 qr2
        clear f0 f1 f2
        replace L := bstep L L.size hb
        replace Ba0 := Ba0.below hb
        replace Ba1 := Ba1.below hb
        replace Br := Br.below hb
        replace K0 := Lib.hid (spMat.rd_below K0.out hb)
        replace R0 := Lib.hid (spII.rd_below R0.out hb)
        replace K1 := Lib.hid (spMat.rd_below K1.out hb)
        replace R1 := Lib.hid (spII.rd_below R1.out hb)
        clear hb
        obtain ⟨bla0, qa00, qa01, qa02⟩ := Ba0.c3
        obtain ⟨bla1, qa10, qa11, qa12⟩ := Ba1.c3
        obtain ⟨blr, qr0, qr1, qr2⟩ := Br.c3
        obtain ⟨f0, f1, f2⟩ := Br.f3
        go_wp2_with (fail)
        refine (H1.out _ _ _ K0.out K1.out).mono ?_; rintro e w3 ⟨up, Sp, rfl, ⟨vp, Tp, rfl, op, subp, -⟩, hSp, -, hb⟩
        clear bla0 qa00 qa01 qa02
        clear bla1 qa10 qa11 qa12
        clear blr qr0 qr1 qr2
        clear f0 f1 f2
        obtain ⟨Ap, cp, rfl, -, -⟩ := spII.own_rd op
        have HTp : Hid (∀ k, Tp k → w.heap.size ≤ k) := Lib.hid fun k h => by have := hSp k (subp k h); have := L.size; omega
        have Npa0 : Hid (¬ Tp w.heap.size) := Lib.hid fun h => by have := hSp _ (subp _ h); have := Ba0.lt; omega
        have Npa1 : Hid (¬ Tp (w.heap.size + 1)) := Lib.hid fun h => by have := hSp _ (subp _ h); have := Ba1.lt; omega
        have Npr : Hid (¬ Tp (w.heap.size + 1 + 1)) := Lib.hid fun h => by have := hSp _ (subp _ h); have := Br.lt; omega
        replace L := bstep L L.size hb
        replace Ba0 := Ba0.below hb
        replace Ba1 := Ba1.below hb
        replace Br := Br.below hb
        replace K0 := Lib.hid (spMat.rd_below K0.out hb)
        replace R0 := Lib.hid (spII.rd_below R0.out hb)
        replace K1 := Lib.hid (spMat.rd_below K1.out hb)
        replace R1 := Lib.hid (spII.rd_below R1.out hb)
        clear hb
        have Kp : Hid (spMat.rd w3 (.agg #[.int .i64 0, .int .i64 0, .slice Ap (([] : List (List Int))).length cp]) ⟨0, 0, ([] : List (List Int))⟩) := Lib.hid ⟨_, rfl, spII.own_rd op⟩
        have Op := Lib.hid op
        clear op subp hSp
        obtain ⟨bla0, qa00, qa01, qa02⟩ := Ba0.c3
        obtain ⟨bla1, qa10, qa11, qa12⟩ := Ba1.c3
        obtain ⟨blr, qr0, qr1, qr2⟩ := Br.c3
        obtain ⟨f0, f1, f2⟩ := Br.f3
        have Lb := L
        have hbx : Below w3.heap.size w3 (w3.alloc (.cells [.int .i64 0, .int .i64 0, .slice Ap (([] : List (List Int))).length cp].toArray 27)) := (Below.refl _ _).alloc (Nat.le_refl _) _
        have Bp := Blk.new w3 [.int .i64 0, .int .i64 0, .slice Ap (([] : List (List Int))).length cp] 27
        replace L := bstep L L.size hbx
        replace Ba0 := Ba0.below hbx
        replace Ba1 := Ba1.below hbx
        replace Br := Br.below hbx
        replace K0 := Lib.hid (spMat.rd_below K0.out hbx)
        replace R0 := Lib.hid (spII.rd_below R0.out hbx)
        replace K1 := Lib.hid (spMat.rd_below K1.out hbx)
        replace R1 := Lib.hid (spII.rd_below R1.out hbx)
        replace Kp := Lib.hid (spMat.rd_below Kp.out hbx)
        replace Op := Lib.hid (spII.own_below Op.out hbx)
        clear hbx
        go_wp2_with (fail)
        refine bodyPost_ret (v := .tuple #[.agg #[.int .i64 0, .int .i64 0, .slice none 0 0], .int .i64 2]) (by simp [results, Try.results33, go_sem, bla0, qa00, qa01, qa02, bla1, qa10, qa11, qa12, blr, qr0, qr1, qr2]) rfl ?_
        rw [HER.out, HEC.out]
        exact MadeC.none rfl (((((Lb).setCell (p := ⟨(w.heap.size + 1 + 1), 0, none⟩) (by simp; try omega) _).setCell (p := ⟨(w.heap.size + 1 + 1), 1, none⟩) (by simp; try omega) _).setCell (p := ⟨(w.heap.size + 1 + 1), 2, none⟩) (by simp; try omega) _).alloc (by have := Lb.size; simp; omega) _)
end Go.Proofs.Ytggkoihlmijacaa
