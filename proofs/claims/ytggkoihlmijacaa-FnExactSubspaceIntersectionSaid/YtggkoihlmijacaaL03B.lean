/- The program's ReduceRows. -/
import Derived.Test.YtggkoihlmijacaaL02Z
import Derived.Test.YtggkoihlmijacaaL02Q
import Derived.Test.YtggkoihlmijacaaL02M
import Derived.Test.YtggkoihlmijacaaL03A
namespace Go.Proofs.Ytggkoihlmijacaa
open Go.RowKit
set_option linter.unusedVariables false
set_option linter.unusedSimpArgs false

set_option maxRecDepth 100000 in
set_option maxHeartbeats 1000000 in
theorem iReduceRows_ok (v0 : Value) (x0 : Mat) (w : World) (h0 : spMat.rd w v0 x0) (s0 : spMat.sz x0 ≤ 1048576) : Calls Try.prog 80 #[v0] w (MadeC spMat (rReduceRows x0) (cReduceRows x0) w) := by
  obtain ⟨A0, n0, c0, rfl, r0⟩ := spMat_form h0
  obtain ⟨rfl, -, -, -⟩ := rdII_of r0
  have b0 : Below w.heap.size w ((w.alloc (.cells [.int .i64 x0.P, .int .i64 x0.C, .slice A0 x0.R.length c0].toArray 27)).alloc (.cells [.int .i64 0, .int .i64 0, .slice none 0 0].toArray 27)) := by go_grown
  have Ba : Blk ((w.alloc (.cells [.int .i64 x0.P, .int .i64 x0.C, .slice A0 x0.R.length c0].toArray 27)).alloc (.cells [.int .i64 0, .int .i64 0, .slice none 0 0].toArray 27)) w.heap.size [.int .i64 x0.P, .int .i64 x0.C, .slice A0 x0.R.length c0] 27 := (Blk.new w [.int .i64 x0.P, .int .i64 x0.C, .slice A0 x0.R.length c0] 27).alloc _
  have Br : Blk ((w.alloc (.cells [.int .i64 x0.P, .int .i64 x0.C, .slice A0 x0.R.length c0].toArray 27)).alloc (.cells [.int .i64 0, .int .i64 0, .slice none 0 0].toArray 27)) (w.heap.size + 1) [.int .i64 0, .int .i64 0, .slice none 0 0] 27 := by have := Blk.new (w.alloc (.cells [.int .i64 x0.P, .int .i64 x0.C, .slice A0 x0.R.length c0].toArray 27)) [.int .i64 0, .int .i64 0, .slice none 0 0] 27; rwa [World.size_alloc] at this
  have K0 := Lib.hid (spMat.rd_below h0 b0)
  have R0 := Lib.hid (spII.rd_below r0 b0)
  clear h0 r0
  cases hk0 : x0.ok with
  | false =>
    have HEC : Hid (cReduceRows x0 = 1) := Lib.hid (by unfold cReduceRows; simp [hk0])
    have HER : Hid (rReduceRows x0 = noMat) := Lib.hid (by unfold rReduceRows; simp [hk0])
    have HC := Lib.hid (isMat_no _ x0 _ K0.out hk0)
    go_enter Try.func80, Try.ntmps80
    go_wp2_with (fail)
    refine HC.out.mono ?_; rintro e w1 ⟨rfl, hb1⟩
    have L1 := bstep b0 b0.size hb1
    have Br1 := Br.below hb1
    clear hb1 Ba Br
    obtain ⟨blr, q0, q1, q2⟩ := Br1.c3
    obtain ⟨f0, f1, f2⟩ := Br1.f3
    go_wp2_with (fail)
    refine bodyPost_ret (v := .tuple #[.agg #[.int .i64 0, .int .i64 0, .slice none 0 0], .int .i64 1]) (by simp [results, Try.results80, go_sem, blr, q0, q1, q2]) rfl ?_
    rw [HER.out, HEC.out]
    exact MadeC.none rfl (((L1.setCell (p := ⟨w.heap.size + 1, 0, none⟩) (by simp; try omega) _).setCell (p := ⟨w.heap.size + 1, 1, none⟩) (by simp; try omega) _).setCell (p := ⟨w.heap.size + 1, 2, none⟩) (by simp; try omega) _)
  | true =>
    have HC := Lib.hid (isMat_yes _ x0 _ K0.out hk0)
    have HK0 := Lib.hid hk0
    clear hk0
    go_enter Try.func80, Try.ntmps80
    go_wp2_with (fail)
    refine HC.out.mono ?_; rintro e w1 ⟨rfl, hb1⟩
    have L1 := bstep b0 b0.size hb1
    have Br1 := Br.below hb1
    have Ba1 := Ba.below hb1
    replace K0 := Lib.hid (spMat.rd_below K0.out hb1)
    replace R0 := Lib.hid (spII.rd_below R0.out hb1)
    clear hb1 Ba Br b0 HC
    obtain ⟨bl1, a0, a1, a2⟩ := Ba1.c3
    obtain ⟨hgp, hp1, hp2, hC0, hC1, hR8, hV0⟩ := Mat.ok_out HK0.out
    have HEC : Hid (cReduceRows x0 = 0) := Lib.hid (by unfold cReduceRows; simp [HK0.out])
    have HER : Hid (rReduceRows x0 = ⟨x0.P, x0.C, Num.reduceR x0.P x0.R⟩) := Lib.hid (by unfold rReduceRows; simp [HK0.out])
    have E := Num.ech_reduce_all hgp hV0
    have rl := Num.reduce_len (p := x0.P) (rows := x0.R)
    have HLN : Hid (∀ i, i < (Num.reduceR x0.P x0.R).length → ((Num.reduceR x0.P x0.R).getD i []).length = x0.C.toNat) := Lib.hid fun i hi => (E.vec i hi).len
    have HSZ : Hid (spII.sz (Num.reduceR x0.P x0.R) ≤ 1048576) := Lib.hid (sz_bd HLN.out (by omega) (by omega))
    have HCB : Hid (spMat.cnt ⟨x0.P, x0.C, Num.reduceR x0.P x0.R⟩ ≤ 1000000000) := Lib.hid (cnt_bd HLN.out (by omega) (by omega))
    have HR1 := Lib.hid (rowsOf_any _ x0 w1.drew (spMat.rd_drew K0.out) HK0.out)
    have HGP := Lib.hid hgp
    have HV0 := Lib.hid hV0
    have HC8 : Hid (x0.C.toNat ≤ 1000) := Lib.hid (by omega)
    have HR8 : Hid (x0.R.length ≤ 1000) := Lib.hid (by omega)
    have HL8 : Hid ((Num.reduceR x0.P x0.R).length ≤ 1000) := Lib.hid (by omega)
    have HLE : Hid (∀ j, j < (Num.reduceR x0.P x0.R).length → ((Num.reduceR x0.P x0.R).getD j []).length ≤ 1000) := Lib.hid fun j hj => by rw [HLN.out j hj]; omega
    have ne1 : ¬ (w.heap.size = w.heap.size + 1) := by omega
    have ne2 : ¬ (w.heap.size + 1 = w.heap.size) := by omega
    clear hV0 hgp E K0 R0 HK0
    go_wp2_with (fail)
    go_region_held3 (fun wx => wx.cell? ⟨w.heap.size, 0, none⟩ = some (.int .i64 x0.P) ∧ wx.cell? ⟨w.heap.size, 1, none⟩ = some (.int .i64 x0.C) ∧ wx.cell? ⟨w.heap.size, 2, none⟩ = some (.slice A0 x0.R.length c0)) (first | go_keep | assumption) (first | (go_at_call 48; refine (HR1.out).mono ?_; rintro e w3 ⟨u3, S3, rfl, ow3, hS3, hb3⟩; have SM3 : w3.cell? ⟨w.heap.size, 0, none⟩ = some (.int .i64 x0.P) ∧ w3.cell? ⟨w.heap.size, 1, none⟩ = some (.int .i64 x0.C) ∧ w3.cell? ⟨w.heap.size, 2, none⟩ = some (.slice A0 x0.R.length c0) := ⟨(Blk.cell ((Ba1.drew).below hb3) 0 (by simp)), (Blk.cell ((Ba1.drew).below hb3) 1 (by simp)), (Blk.cell ((Ba1.drew).below hb3) 2 (by simp))⟩) | (go_at_call 50; refine (reduced_any x0.P x0.C.toNat _ x0.R _ ((spRR x0.P).own_rd ow3) HGP.out HV0.out HC8.out HR8.out).mono ?_; rintro e w4 ⟨u4, S4, rfl, ow4, hS4, hb4⟩; have SM4 : w4.cell? ⟨w.heap.size, 0, none⟩ = some (.int .i64 x0.P) ∧ w4.cell? ⟨w.heap.size, 1, none⟩ = some (.int .i64 x0.C) ∧ w4.cell? ⟨w.heap.size, 2, none⟩ = some (.slice A0 x0.R.length c0) := ⟨(Blk.cell (((Ba1.drew).below hb3).below hb4) 0 (by simp)), (Blk.cell (((Ba1.drew).below hb3).below hb4) 1 (by simp)), (Blk.cell (((Ba1.drew).below hb3).below hb4) 2 (by simp))⟩) | (go_at_call 65; refine (matrixOf_any x0.P x0.C _ _ _ ((spRR x0.P).own_rd ow4) HL8.out HLE.out).mono ?_; rintro e w5 ⟨u5, S5, rfl, ⟨v5, T5, rfl, o5, sub5, -⟩, hS5, hb5⟩; obtain ⟨A5, c5, rfl, -, -⟩ := spII.own_rd o5; have SM5 : w5.cell? ⟨w.heap.size, 0, none⟩ = some (.int .i64 x0.P) ∧ w5.cell? ⟨w.heap.size, 1, none⟩ = some (.int .i64 x0.C) ∧ w5.cell? ⟨w.heap.size, 2, none⟩ = some (.slice A0 x0.R.length c0) := ⟨(Blk.cell ((((Ba1.drew).below hb3).below hb4).below hb5) 0 (by simp)), (Blk.cell ((((Ba1.drew).below hb3).below hb4).below hb5) 1 (by simp)), (Blk.cell ((((Ba1.drew).below hb3).below hb4).below hb5) 2 (by simp))⟩; have Brz := (((Br1.drew).below hb3).below hb4).below hb5; obtain ⟨blr, q0, q1, q2⟩ := Brz.c3; obtain ⟨f0, f1, f2⟩ := Brz.f3))
    all_goals
      have LZ3 := bstep L1.drew L1.size hb3
      have LZ4 := bstep LZ3 LZ3.size hb4
      have LZ5 := bstep LZ4 LZ4.size hb5
      have ltz := Br1.lt
      have hq0 : w1.heap.size = w1.drew.heap.size := rfl
      have hq3 := hb3.size
      have hq4 := hb4.size
      have hq5 := hb5.size
      have HT : Hid (∀ k, T5 k → w.heap.size ≤ k) := Lib.hid fun k h => by have := hS5 k (sub5 k h); omega
      have nT : ¬ T5 (w.heap.size + 1) := fun h => by have := hS5 _ (sub5 _ h); omega
      have HO := Lib.hid o5
      clear o5 sub5 hS5
      go_wp2_with (fail)
      refine bodyPost_ret (v := .tuple #[.agg #[.int .i64 x0.P, .int .i64 x0.C, .slice A5 (Num.reduceR x0.P x0.R).length c5], .int .i64 0]) (by simp [results, Try.results80, go_sem, blr, q0, q1, q2]) rfl ?_
      rw [HER.out, HEC.out]
      refine MadeC.mat (S := T5) rfl ?_ HT.out HCB.out ?_
      · exact spII.own_set (spII.own_set (spII.own_set HO.out (p := ⟨w.heap.size + 1, 0, none⟩) nT _) (p := ⟨w.heap.size + 1, 1, none⟩) nT _) (p := ⟨w.heap.size + 1, 2, none⟩) nT _
      · exact ((LZ5.setCell (p := ⟨w.heap.size + 1, 0, none⟩) (by simp; try omega) _).setCell (p := ⟨w.heap.size + 1, 1, none⟩) (by simp; try omega) _).setCell (p := ⟨w.heap.size + 1, 2, none⟩) (by simp; try omega) _
end Go.Proofs.Ytggkoihlmijacaa
