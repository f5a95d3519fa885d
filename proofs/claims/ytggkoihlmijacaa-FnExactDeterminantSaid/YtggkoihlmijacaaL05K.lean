/- The model's Determinant (its top). -/
import Derived.Test.YtggkoihlmijacaaL05J
import Derived.Test.YtggkoihlmijacaaL03K
namespace Go.Proofs.Ytggkoihlmijacaa
open Go.RowKit
set_option linter.unusedVariables false
set_option linter.unusedSimpArgs false
set_option maxRecDepth 100000 in
set_option maxHeartbeats 2000000 in
theorem sDeterminant_ok (v0 : Value) (x0 : Mat) (w : World) (h0 : spMat.rd w v0 x0) (s0 : spMat.sz x0 ≤ 1048576) : Calls Try.prog 40 #[v0] w (RetI (rDeterminant x0) (cDeterminant x0) w) := by
  obtain ⟨A0, n0, c0, rfl, r0⟩ := spMat_form h0
  obtain ⟨rfl, -, -, -⟩ := rdII_of r0
  have b0 : Below w.heap.size w (w.alloc (.cells [.int .i64 x0.P, .int .i64 x0.C, .slice A0 x0.R.length c0].toArray 27)) := by go_grown
  have Ba : Blk (w.alloc (.cells [.int .i64 x0.P, .int .i64 x0.C, .slice A0 x0.R.length c0].toArray 27)) w.heap.size [.int .i64 x0.P, .int .i64 x0.C, .slice A0 x0.R.length c0] 27 := Blk.new w _ _
  have K0 := Lib.hid (spMat.rd_below h0 b0)
  have R0 := Lib.hid (spII.rd_below r0 b0)
  clear h0 r0
  cases hk0 : x0.ok with
  | false =>
    have HEC : Hid (cDeterminant x0 = 1) := Lib.hid (by unfold cDeterminant Mat.sq; simp [hk0])
    have HER : Hid (rDeterminant x0 = 0) := Lib.hid (by unfold rDeterminant Mat.sq; simp [hk0])
    have HC := Lib.hid (sIsMat_no _ x0 _ K0.out hk0)
    go_enter Try.func40, Try.ntmps40
    go_wp2_with (fail)
    refine HC.out.mono ?_; rintro e w1 ⟨rfl, hb1⟩
    have L1 := bstep b0 b0.size hb1
    clear hb1 Ba
    go_wp2_with (fail)
    refine bodyPost_ret (v := .tuple #[.int .i64 0, .int .i64 1]) (by simp [results, Try.results40, go_sem]) rfl ?_
    rw [HER.out, HEC.out]
    exact ⟨rfl, L1⟩
  | true =>
    have HC := Lib.hid (sIsMat_yes _ x0 _ K0.out hk0)
    have HK0 := Lib.hid hk0
    clear hk0
    go_enter Try.func40, Try.ntmps40
    go_wp2_with (fail)
    refine HC.out.mono ?_; rintro e w1 ⟨rfl, hb1⟩
    have L1 := bstep b0 b0.size hb1
    have Ba1 := Ba.below hb1
    replace K0 := Lib.hid (spMat.rd_below K0.out hb1)
    replace R0 := Lib.hid (spII.rd_below R0.out hb1)
    clear hb1 Ba b0 HC
    obtain ⟨bl1, a0, a1, a2⟩ := Ba1.c3
    obtain ⟨hgp, hp1, hp2, hC0, hC1, hR8, hV0⟩ := Mat.ok_out HK0.out
    by_cases hsq : (x0.R.length : Int) = x0.C
    · have HS0 := Lib.hid (Mat.sq_ok HK0.out hsq)
      have HQ := Lib.hid hsq
      have HSQ := Lib.hid (sSquare_yes _ x0 _ K0.out hsq)
      clear hsq
      go_wp2_with (fail)
      refine HSQ.out.mono ?_; rintro e w2 ⟨rfl, hb2⟩
      have L2 := bstep L1 L1.size hb2
      have Ba2 := Ba1.below hb2
      replace R0 := Lib.hid (spII.rd_below R0.out hb2)
      clear hb2 Ba1 L1 bl1 a0 a1 a2 HSQ
      obtain ⟨bl2, a0, a1, a2⟩ := Ba2.c3
      have sq1 : x0.C.toNat = x0.R.length := by have := HQ.out; omega
      have HDT := Lib.hid (sDet_any x0.P _ x0.R x0.R.length w2 R0.out hgp rfl (by rw [sq1] at hV0; exact hV0) hR8)
      have HEC : Hid (cDeterminant x0 = 0) := HS0
      have HER : Hid (rDeterminant x0 = Num.det x0.R.length (Num.matF x0.R) % x0.P) := Lib.hid (by unfold rDeterminant; rw [if_pos HS0.out])
      clear hV0 R0 K0 sq1
      go_wp2_with (fail)
      refine HDT.out.mono ?_; rintro e w3 ⟨rfl, hb3⟩
      have L3 := bstep L2 L2.size hb3
      go_wp2_with (fail)
      refine bodyPost_ret (v := .tuple #[.int .i64 (Num.det x0.R.length (Num.matF x0.R) % x0.P), .int .i64 0]) (by simp [results, Try.results40, go_sem]) rfl ?_
      rw [HER.out, HEC.out]
      exact ⟨rfl, L3⟩
    · have HS0 := Mat.sq_two HK0.out hsq
      have HEC : Hid (cDeterminant x0 = 2) := Lib.hid HS0
      have HER : Hid (rDeterminant x0 = 0) := Lib.hid (by unfold rDeterminant; rw [HS0]; rfl)
      have HSQ := Lib.hid (sSquare_no _ x0 _ K0.out hsq)
      clear hsq HS0
      go_wp2_with (fail)
      refine HSQ.out.mono ?_; rintro e w2 ⟨rfl, hb2⟩
      have L2 := bstep L1 L1.size hb2
      go_wp2_with (fail)
      refine bodyPost_ret (v := .tuple #[.int .i64 0, .int .i64 2]) (by simp [results, Try.results40, go_sem]) rfl ?_
      rw [HER.out, HEC.out]
      exact ⟨rfl, L2⟩
end Go.Proofs.Ytggkoihlmijacaa
