/- The program's Annihilator. -/
import Derived.Test.YtggkoihlmijacaaL04D
import Derived.Test.YtggkoihlmijacaaL03M
import Derived.Test.YtggkoihlmijacaaL03I
import Derived.Test.YtggkoihlmijacaaKC
namespace Go.Proofs.Ytggkoihlmijacaa
open Go.RowKit
set_option linter.unusedVariables false
set_option linter.unusedSimpArgs false

theorem Mat.ok_sz {x : Mat} (h : x.ok = true) : spMat.sz x ≤ 1048576 := by
  obtain ⟨_, _, _, h3, h4, h5, _⟩ := Mat.ok_out h
  exact sz_bd (Mat.ok_len h) (by omega) (by omega)
theorem Mat.ok_cnt {x : Mat} (h : x.ok = true) : spMat.cnt x ≤ 1000000000 := by
  obtain ⟨_, _, _, h3, h4, h5, _⟩ := Mat.ok_out h
  exact cnt_bd (P := x.P) (C := x.C) (Mat.ok_len h) (by omega) (by omega)
set_option maxRecDepth 100000 in
set_option maxHeartbeats 2000000 in
theorem iAnnihilator_ok (v0 : Value) (x0 : Mat) (w : World) (h0 : spMat.rd w v0 x0) (s0 : spMat.sz x0 ≤ 1048576) : Calls Try.prog 29 #[v0] w (MadeC spMat (rAnnihilator x0) (cAnnihilator x0) w) := by
  obtain ⟨A0, n0, c0, rfl, r0⟩ := spMat_form h0
  obtain ⟨rfl, -, -, -⟩ := rdII_of r0
  have L : Below w.heap.size w ((w.alloc (.cells [.int .i64 x0.P, .int .i64 x0.C, .slice A0 x0.R.length c0].toArray 27)).alloc (.cells [.int .i64 0, .int .i64 0, .slice none 0 0].toArray 27)) := by go_grown
  have Ba0 : Blk ((w.alloc (.cells [.int .i64 x0.P, .int .i64 x0.C, .slice A0 x0.R.length c0].toArray 27)).alloc (.cells [.int .i64 0, .int .i64 0, .slice none 0 0].toArray 27)) w.heap.size [.int .i64 x0.P, .int .i64 x0.C, .slice A0 x0.R.length c0] 27 := by have := (Blk.new w [.int .i64 x0.P, .int .i64 x0.C, .slice A0 x0.R.length c0] 27).alloc (.cells [.int .i64 0, .int .i64 0, .slice none 0 0].toArray 27); simpa only [World.size_alloc] using this
  have Br : Blk ((w.alloc (.cells [.int .i64 x0.P, .int .i64 x0.C, .slice A0 x0.R.length c0].toArray 27)).alloc (.cells [.int .i64 0, .int .i64 0, .slice none 0 0].toArray 27)) (w.heap.size + 1) [.int .i64 0, .int .i64 0, .slice none 0 0] 27 := by have := Blk.new (w.alloc (.cells [.int .i64 x0.P, .int .i64 x0.C, .slice A0 x0.R.length c0].toArray 27)) [.int .i64 0, .int .i64 0, .slice none 0 0] 27; simpa only [World.size_alloc] using this
  have K0 := Lib.hid (spMat.rd_below h0 L)
  have R0 := Lib.hid (spII.rd_below r0 L)
  clear h0 r0
  cases hk0 : x0.sub with
  | false =>
    have HEC : Hid (cAnnihilator x0 = 1) := Lib.hid (by unfold cAnnihilator; simp [hk0])
    have HER : Hid (rAnnihilator x0 = noMat) := Lib.hid (by unfold rAnnihilator; simp [hk0])
    have HC := Lib.hid (isSub_no _ x0 _ K0.out hk0)
    clear hk0
    go_enter Try.func29, Try.ntmps29
    go_wp2_with (fail)
    refine (HC.out).mono ?_; rintro e w1 ⟨rfl, hb⟩
    replace L := bstep L L.size hb
    replace Ba0 := Ba0.below hb
    replace Br := Br.below hb
    replace K0 := Lib.hid (spMat.rd_below K0.out hb)
    replace R0 := Lib.hid (spII.rd_below R0.out hb)
    clear hb
    obtain ⟨bla0, qa00, qa01, qa02⟩ := Ba0.c3
    obtain ⟨blr, qr0, qr1, qr2⟩ := Br.c3
    obtain ⟨f0, f1, f2⟩ := Br.f3
    go_wp2_with (fail)
    refine bodyPost_ret (v := .tuple #[.agg #[.int .i64 0, .int .i64 0, .slice none 0 0], .int .i64 1]) (by simp [results, Try.results29, go_sem, bla0, qa00, qa01, qa02, blr, qr0, qr1, qr2]) rfl ?_
    rw [HER.out, HEC.out]
    exact MadeC.none rfl ((((L).setCell (p := ⟨(w.heap.size + 1), 0, none⟩) (by simp; try omega) _).setCell (p := ⟨(w.heap.size + 1), 1, none⟩) (by simp; try omega) _).setCell (p := ⟨(w.heap.size + 1), 2, none⟩) (by simp; try omega) _)
  | true =>
    obtain ⟨e1, e2, e3, e4⟩ := ann_kernel hk0
    have HEC : Hid (cAnnihilator x0 = 0) := Lib.hid (by unfold cAnnihilator; simp [hk0])
    have HER : Hid (rAnnihilator x0 = ⟨x0.P, x0.C, Num.annR x0.P x0.R x0.C.toNat⟩) := Lib.hid (by unfold rAnnihilator; simp [hk0])
    have HC := Lib.hid (isSub_yes _ x0 _ K0.out hk0)
    have HCB : Hid (spMat.cnt ⟨x0.P, x0.C, Num.annR x0.P x0.R x0.C.toNat⟩ ≤ 1000000000) := Lib.hid (Mat.ok_cnt (Mat.sub_ok (ann_ok hk0)))
    have H1 : Hid (∀ W u, spMat.rd W u x0 → Calls Try.prog 71 #[u] W (MadeC spMat ⟨x0.P, x0.R.length, Num.transR x0.R x0.C.toNat⟩ 0 W)) := Lib.hid fun W u hu => by
      have := iTransposeMatrix_ok u x0 W hu (Mat.ok_sz (Mat.sub_ok hk0))
      rwa [e1, e2] at this
    have H2 : Hid (∀ W u, spMat.rd W u ⟨x0.P, x0.R.length, Num.transR x0.R x0.C.toNat⟩ → Calls Try.prog 72 #[u] W (MadeC spMat ⟨x0.P, x0.C, Num.annR x0.P x0.R x0.C.toNat⟩ 0 W)) := Lib.hid fun W u hu => by
      have := iLeftKernel_ok u _ W hu (Mat.ok_sz (trans_ok (Mat.sub_ok hk0)))
      rwa [e3, e4] at this
    clear e1 e2 e3 e4 hk0
    generalize Num.annR x0.P x0.R x0.C.toNat = RA at *
    generalize Num.transR x0.R x0.C.toNat = RT at *
    go_enter Try.func29, Try.ntmps29
    go_wp2_with (fail)
    refine (HC.out).mono ?_; rintro e w1 ⟨rfl, hb⟩
    replace L := bstep L L.size hb
    replace Ba0 := Ba0.below hb
    replace Br := Br.below hb
    replace K0 := Lib.hid (spMat.rd_below K0.out hb)
    replace R0 := Lib.hid (spII.rd_below R0.out hb)
    clear hb
    obtain ⟨bla0, qa00, qa01, qa02⟩ := Ba0.c3
    obtain ⟨blr, qr0, qr1, qr2⟩ := Br.c3
    obtain ⟨f0, f1, f2⟩ := Br.f3
    go_wp2_with (fail)
    refine (H1.out _ _ K0.out).mono ?_; rintro e w2 ⟨ut, St, rfl, ⟨vt, Tt, rfl, ot, subt, -⟩, hSt, -, hb⟩
    clear bla0 qa00 qa01 qa02
    clear blr qr0 qr1 qr2
    clear f0 f1 f2
    obtain ⟨At, ct, rfl, -, -⟩ := spII.own_rd ot
    have HTt : Hid (∀ k, Tt k → w.heap.size ≤ k) := Lib.hid fun k h => by have := hSt k (subt k h); have := L.size; omega
    have Nta0 : Hid (¬ Tt w.heap.size) := Lib.hid fun h => by have := hSt _ (subt _ h); have := Ba0.lt; omega
    have Ntr : Hid (¬ Tt (w.heap.size + 1)) := Lib.hid fun h => by have := hSt _ (subt _ h); have := Br.lt; omega
    replace L := bstep L L.size hb
    replace Ba0 := Ba0.below hb
    replace Br := Br.below hb
    replace K0 := Lib.hid (spMat.rd_below K0.out hb)
    replace R0 := Lib.hid (spII.rd_below R0.out hb)
    clear hb
    have Kt : Hid (spMat.rd w2 (.agg #[.int .i64 x0.P, .int .i64 (x0.R.length : Int), .slice At (RT).length ct]) ⟨x0.P, (x0.R.length : Int), RT⟩) := Lib.hid ⟨_, rfl, spII.own_rd ot⟩
    have Ot := Lib.hid ot
    clear ot subt hSt
    obtain ⟨bla0, qa00, qa01, qa02⟩ := Ba0.c3
    obtain ⟨blr, qr0, qr1, qr2⟩ := Br.c3
    obtain ⟨f0, f1, f2⟩ := Br.f3
    have Lb := L
    have hbx : Below w2.heap.size w2 (w2.alloc (.cells [.int .i64 x0.P, .int .i64 (x0.R.length : Int), .slice At RT.length ct].toArray 27)) := (Below.refl _ _).alloc (Nat.le_refl _) _
    have Bt := Blk.new w2 [.int .i64 x0.P, .int .i64 (x0.R.length : Int), .slice At RT.length ct] 27
    replace L := bstep L L.size hbx
    replace Ba0 := Ba0.below hbx
    replace Br := Br.below hbx
    replace K0 := Lib.hid (spMat.rd_below K0.out hbx)
    replace R0 := Lib.hid (spII.rd_below R0.out hbx)
    replace Kt := Lib.hid (spMat.rd_below Kt.out hbx)
    replace Ot := Lib.hid (spII.own_below Ot.out hbx)
    clear hbx
    go_wp2_with (fail)
    refine (H2.out _ _ Kt.out).mono ?_; rintro e w3 ⟨uk, Sk, rfl, ⟨vk, Tk, rfl, ok, subk, -⟩, hSk, -, hb⟩
    clear bla0 qa00 qa01 qa02
    clear blr qr0 qr1 qr2
    clear f0 f1 f2
    clear Lb
    obtain ⟨Ak, ck, rfl, -, -⟩ := spII.own_rd ok
    have HTk : Hid (∀ k, Tk k → w.heap.size ≤ k) := Lib.hid fun k h => by have := hSk k (subk k h); have := L.size; omega
    have Nka0 : Hid (¬ Tk w.heap.size) := Lib.hid fun h => by have := hSk _ (subk _ h); have := Ba0.lt; omega
    have Nkr : Hid (¬ Tk (w.heap.size + 1)) := Lib.hid fun h => by have := hSk _ (subk _ h); have := Br.lt; omega
    have Nkt : Hid (¬ Tk w2.heap.size) := Lib.hid fun h => by have := hSk _ (subk _ h); have := Bt.lt; omega
    replace L := bstep L L.size hb
    replace Ba0 := Ba0.below hb
    replace Br := Br.below hb
    replace Bt := Bt.below hb
    replace K0 := Lib.hid (spMat.rd_below K0.out hb)
    replace R0 := Lib.hid (spII.rd_below R0.out hb)
    replace Kt := Lib.hid (spMat.rd_below Kt.out hb)
    replace Ot := Lib.hid (spII.own_below Ot.out hb)
    clear hb
    have Kk : Hid (spMat.rd w3 (.agg #[.int .i64 x0.P, .int .i64 x0.C, .slice Ak (RA).length ck]) ⟨x0.P, x0.C, RA⟩) := Lib.hid ⟨_, rfl, spII.own_rd ok⟩
    have Ok := Lib.hid ok
    clear ok subk hSk
    obtain ⟨bla0, qa00, qa01, qa02⟩ := Ba0.c3
    obtain ⟨blr, qr0, qr1, qr2⟩ := Br.c3
    obtain ⟨blt, qt0, qt1, qt2⟩ := Bt.c3
    obtain ⟨f0, f1, f2⟩ := Br.f3
    go_wp2_with (fail)
    refine bodyPost_ret (v := .tuple #[.agg #[.int .i64 x0.P, .int .i64 x0.C, .slice Ak RA.length ck], .int .i64 0]) (by simp [results, Try.results29, go_sem, bla0, qa00, qa01, qa02, blr, qr0, qr1, qr2, blt, qt0, qt1, qt2]) rfl ?_
    rw [HER.out, HEC.out]
    refine MadeC.mat (S := Tk) rfl ?_ HTk.out HCB.out ?_
    · exact spII.own_set (spII.own_set (spII.own_set (Ok.out) (p := ⟨(w.heap.size + 1), 0, none⟩) Nkr.out _) (p := ⟨(w.heap.size + 1), 1, none⟩) Nkr.out _) (p := ⟨(w.heap.size + 1), 2, none⟩) Nkr.out _
    · exact (((L).setCell (p := ⟨(w.heap.size + 1), 0, none⟩) (by simp; try omega) _).setCell (p := ⟨(w.heap.size + 1), 1, none⟩) (by simp; try omega) _).setCell (p := ⟨(w.heap.size + 1), 2, none⟩) (by simp; try omega) _
end Go.Proofs.Ytggkoihlmijacaa
