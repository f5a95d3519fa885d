/- The program's IsSubspace. -/
import Derived.Test.YtggkoihlmijacaaL04B
import Derived.Test.YtggkoihlmijacaaL02Z
import Derived.Test.YtggkoihlmijacaaL02Q
import Derived.Test.YtggkoihlmijacaaL02M
namespace Go.Proofs.Ytggkoihlmijacaa
open Go.RowKit
set_option linter.unusedVariables false
set_option linter.unusedSimpArgs false

theorem equalRR_at (p : Int) (v u : Value) (xs ys : List (List Int)) (w : World) (h : (spRR p).rd w v xs) (k : (spRR p).rd w u ys) (b : Bool) (e : decide (xs = ys) = b) :
    Calls Try.prog 49 #[v, u, .func (.func 51) #[] #[]] w (RetB b w) := by
  have := equalRR_any p v u xs ys w h k
  rw [e] at this; exact this
set_option maxRecDepth 100000 in
set_option maxHeartbeats 1000000 in
theorem iIsSubspace_any (v0 : Value) (x0 : Mat) (w : World) (h0 : spMat.rd w v0 x0) : Calls Try.prog 16 #[v0] w (RetB x0.sub w) := by
  obtain ⟨A0, n0, c0, rfl, r0⟩ := spMat_form h0
  obtain ⟨rfl, -, -, -⟩ := rdII_of r0
  have b0 : Below w.heap.size w (w.alloc (.cells [.int .i64 x0.P, .int .i64 x0.C, .slice A0 x0.R.length c0].toArray 27)) := by go_grown
  have Ba : Blk (w.alloc (.cells [.int .i64 x0.P, .int .i64 x0.C, .slice A0 x0.R.length c0].toArray 27)) w.heap.size [.int .i64 x0.P, .int .i64 x0.C, .slice A0 x0.R.length c0] 27 := Blk.new w [.int .i64 x0.P, .int .i64 x0.C, .slice A0 x0.R.length c0] 27
  have K0 := Lib.hid (spMat.rd_below h0 b0)
  clear h0 r0
  cases hk0 : x0.ok with
  | false =>
    have HEC : Hid (x0.sub = false) := Lib.hid (Mat.sub_false hk0)
    have HC := Lib.hid (isMat_no _ x0 _ K0.out hk0)
    obtain ⟨bl1, a0, a1, a2⟩ := Ba.c3
    clear hk0
    rw [HEC.out]
    go_enter Try.func16, Try.ntmps16
    go_wp2_with (fail)
    refine HC.out.mono ?_; rintro e w1 ⟨rfl, hb1⟩
    have L1 := bstep b0 b0.size hb1
    clear a0 a1 a2
    go_wp2_with (fail)
    go_ret
    exact ⟨rfl, L1⟩
  | true =>
    obtain ⟨hgp, hp1, hp2, hC0, hC1, hR8, hV0⟩ := Mat.ok_out hk0
    obtain ⟨bb, hbb⟩ : ∃ b, decide (Num.reduceR x0.P x0.R = x0.R) = b := ⟨_, rfl⟩
    have HBB := Lib.hid hbb
    have HEC : Hid (x0.sub = bb) := Lib.hid (by unfold Mat.sub; rw [hk0, ← hbb]; simp)
    have HC := Lib.hid (isMat_yes _ x0 _ K0.out hk0)
    have HK0 := Lib.hid hk0
    have HGP := Lib.hid hgp
    have HV0 := Lib.hid hV0
    obtain ⟨bl1, a0, a1, a2⟩ := Ba.c3
    clear hk0 hbb hV0 hgp
    rw [HEC.out]
    go_enter Try.func16, Try.ntmps16
    go_wp2_with (fail)
    refine HC.out.mono ?_; rintro e w1 ⟨rfl, hb1⟩
    have L1 := bstep b0 b0.size hb1
    have Ba1 := Ba.below hb1
    replace K0 := Lib.hid (spMat.rd_below K0.out hb1)
    clear a0 a1 a2 hb1 HC Ba
    obtain ⟨bl1', a0, a1, a2⟩ := Ba1.c3
    go_wp2_with (fail)
    refine (rowsOf_any _ x0 _ K0.out HK0.out).mono ?_; rintro e w2 ⟨u2, S2, rfl, ow2, hS2, hb2⟩
    have L2 := bstep L1 L1.size hb2
    have O2 := Lib.hid ow2
    clear a0 a1 a2 ow2 hS2 hb2
    go_wp2_with (fail)
    refine (reduced_any x0.P x0.C.toNat _ x0.R _ ((spRR x0.P).own_rd O2.out) HGP.out HV0.out (by omega) (by omega)).mono ?_; rintro e w3 ⟨u3, S3, rfl, ow3, hS3, hb3⟩
    have L3 := bstep L2 L2.size hb3
    have HE := Lib.hid (equalRR_at x0.P _ _ _ _ _ ((spRR x0.P).own_rd ow3) ((spRR x0.P).rd_below ((spRR x0.P).own_rd O2.out) hb3) bb HBB.out)
    clear ow3 hS3 hb3
    go_wp2_with (fail)
    refine HE.out.mono ?_; rintro e w4 ⟨rfl, hb4⟩
    have L4 := bstep L3 L3.size hb4
    clear hb4
    go_wp2_with (fail)
    go_ret
    exact ⟨rfl, L4⟩
theorem isSub_yes (v : Value) (x : Mat) (w : World) (h : spMat.rd w v x) (hk : x.sub = true) : Calls Try.prog 16 #[v] w (RetB true w) := by
  have := iIsSubspace_any v x w h; rwa [hk] at this
theorem isSub_no (v : Value) (x : Mat) (w : World) (h : spMat.rd w v x) (hk : x.sub = false) : Calls Try.prog 16 #[v] w (RetB false w) := by
  have := iIsSubspace_any v x w h; rwa [hk] at this
theorem iIsSubspace_ok (v0 : Value) (x0 : Mat) (w : World) (h0 : spMat.rd w v0 x0) (s0 : spMat.sz x0 ≤ 1048576) : Calls Try.prog 16 #[v0] w (RetB x0.sub w) := iIsSubspace_any v0 x0 w h0
end Go.Proofs.Ytggkoihlmijacaa
