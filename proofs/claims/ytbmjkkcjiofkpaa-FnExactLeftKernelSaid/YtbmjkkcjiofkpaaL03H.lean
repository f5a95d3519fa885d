/- The model's LeftKernel. -/
import Derived.Test.YtbmjkkcjiofkpaaL03D
import Derived.Test.YtbmjkkcjiofkpaaL02M
namespace Go.Proofs.Ytbmjkkcjiofkpaa
open Go.RowKit
set_option linter.unusedVariables false
set_option linter.unusedSimpArgs false

theorem nullR_len {p : Int} {C : Nat} {rows : List (List Int)} (hp : Num.gp p = true) (h : ∀ i, i < rows.length → Num.Vec p C (rows.getD i [])) : ∀ i, i < (Num.nullR p rows C).length → ((Num.nullR p rows C).getD i []).length = rows.length := fun i hi => by
  have E := Num.wide_ech hp h
  unfold Num.nullR at hi ⊢
  have hi' : i < ((Num.wideE p rows).drop (Num.place (Num.wideE p rows) C)).length := by simpa using hi
  have hi2 : Num.place (Num.wideE p rows) C + i < (Num.wideE p rows).length := by simp at hi'; omega
  have e : ((Num.wideE p rows).drop (Num.place (Num.wideE p rows) C)).getD i [] = (Num.wideE p rows).getD (Num.place (Num.wideE p rows) C + i) [] := by simp [List.getD_eq_getElem?_getD, List.getElem?_drop]
  rw [Num.map_getD hi', e, List.length_drop, (E.vec _ hi2).len]
  omega
theorem sNull_at (p C' : Int) (rv : Value) (rows : List (List Int)) (C : Nat) (w : World) (hr : spII.rd w rv rows) (hgp : Num.gp p = true) (hrv : ∀ i, i < rows.length → Num.Vec p C (rows.getD i [])) (hC : C ≤ 100) (hrl : rows.length ≤ 100) (e : C' = (C : Int)) :
    Calls Try.prog 86 #[.int .i64 p, rv, .int .i64 C'] w (Made spII (Num.nullR p rows C) w) := by
  subst e
  exact sNull_any p rv rows C w hr hgp hrv hC hrl
set_option maxRecDepth 100000 in
set_option maxHeartbeats 1000000 in
theorem sLeftKernel_ok (v0 : Value) (x0 : Mat) (w : World) (h0 : spMat.rd w v0 x0) (s0 : spMat.sz x0 ≤ 1048576) : Calls Try.prog 37 #[v0] w (MadeC spMat (rLeftKernel x0) (cLeftKernel x0) w) := by
  obtain ⟨A0, n0, c0, rfl, r0⟩ := spMat_form h0
  obtain ⟨rfl, -, -, -⟩ := rdII_of r0
  have b0 : Below w.heap.size w ((w.alloc (.cells [.int .i64 x0.P, .int .i64 x0.C, .slice A0 x0.R.length c0].toArray 26)).alloc (.cells [.int .i64 0, .int .i64 0, .slice none 0 0].toArray 26)) := by go_grown
  have Ba : Blk ((w.alloc (.cells [.int .i64 x0.P, .int .i64 x0.C, .slice A0 x0.R.length c0].toArray 26)).alloc (.cells [.int .i64 0, .int .i64 0, .slice none 0 0].toArray 26)) w.heap.size [.int .i64 x0.P, .int .i64 x0.C, .slice A0 x0.R.length c0] 26 := (Blk.new w [.int .i64 x0.P, .int .i64 x0.C, .slice A0 x0.R.length c0] 26).alloc _
  have Br : Blk ((w.alloc (.cells [.int .i64 x0.P, .int .i64 x0.C, .slice A0 x0.R.length c0].toArray 26)).alloc (.cells [.int .i64 0, .int .i64 0, .slice none 0 0].toArray 26)) (w.heap.size + 1) [.int .i64 0, .int .i64 0, .slice none 0 0] 26 := by have := Blk.new (w.alloc (.cells [.int .i64 x0.P, .int .i64 x0.C, .slice A0 x0.R.length c0].toArray 26)) [.int .i64 0, .int .i64 0, .slice none 0 0] 26; rwa [World.size_alloc] at this
  have K0 := Lib.hid (spMat.rd_below h0 b0)
  have R0 := Lib.hid (spII.rd_below r0 b0)
  clear h0 r0
  cases hk0 : x0.ok with
  | false =>
    have HEC : Hid (cLeftKernel x0 = 1) := Lib.hid (by unfold cLeftKernel; simp [hk0])
    have HER : Hid (rLeftKernel x0 = noMat) := Lib.hid (by unfold rLeftKernel; simp [hk0])
    have HC := Lib.hid (sIsMat_no _ x0 _ K0.out hk0)
    go_enter Try.func37, Try.ntmps37
    go_wp2_with (fail)
    refine HC.out.mono ?_; rintro e w1 ⟨rfl, hb1⟩
    have L1 := bstep b0 b0.size hb1
    have Br1 := Br.below hb1
    clear hb1 Ba Br
    obtain ⟨blr, q0, q1, q2⟩ := Br1.c3
    obtain ⟨f0, f1, f2⟩ := Br1.f3
    go_wp2_with (fail)
    refine bodyPost_ret (v := .tuple #[.agg #[.int .i64 0, .int .i64 0, .slice none 0 0], .int .i64 1]) (by simp [results, Try.results37, go_sem, blr, q0, q1, q2]) rfl ?_
    rw [HER.out, HEC.out]
    exact MadeC.none rfl (((L1.setCell (p := ⟨w.heap.size + 1, 0, none⟩) (by simp; try omega) _).setCell (p := ⟨w.heap.size + 1, 1, none⟩) (by simp; try omega) _).setCell (p := ⟨w.heap.size + 1, 2, none⟩) (by simp; try omega) _)
  | true =>
    have HC := Lib.hid (sIsMat_yes _ x0 _ K0.out hk0)
    have HK0 := Lib.hid hk0
    clear hk0
    go_enter Try.func37, Try.ntmps37
    go_wp2_with (fail)
    refine HC.out.mono ?_; rintro e w1 ⟨rfl, hb1⟩
    have L1 := bstep b0 b0.size hb1
    have Br1 := Br.below hb1
    have Ba1 := Ba.below hb1
    replace K0 := Lib.hid (spMat.rd_below K0.out hb1)
    replace R0 := Lib.hid (spII.rd_below R0.out hb1)
    clear hb1 Ba Br b0 HC
    obtain ⟨bl1, a0, a1, a2⟩ := Ba1.c3
    obtain ⟨hgp, hp1, hp2, hC0, hC1, hR8, hV0⟩ := Mat.ok_out HK0.out
    have HEC : Hid (cLeftKernel x0 = 0) := Lib.hid (by unfold cLeftKernel; simp [HK0.out])
    have HER : Hid (rLeftKernel x0 = ⟨x0.P, (x0.R.length : Int), Num.nullR x0.P x0.R x0.C.toNat⟩) := Lib.hid (by unfold rLeftKernel; simp [HK0.out])
    have E := Num.wide_ech hgp hV0
    have wl := Num.wide_len hgp hV0
    have nl : (Num.nullR x0.P x0.R x0.C.toNat).length ≤ x0.R.length := by unfold Num.nullR; simp; omega
    have HLN : Hid (∀ i, i < (Num.nullR x0.P x0.R x0.C.toNat).length → ((Num.nullR x0.P x0.R x0.C.toNat).getD i []).length = x0.R.length) := Lib.hid (nullR_len hgp hV0)
    have HSZ : Hid (spII.sz (Num.nullR x0.P x0.R x0.C.toNat) ≤ 1048576) := Lib.hid (sz_bd HLN.out (by omega) (by omega))
    have HCB : Hid (spMat.cnt ⟨x0.P, (x0.R.length : Int), Num.nullR x0.P x0.R x0.C.toNat⟩ ≤ 1000000000) := Lib.hid (cnt_bd HLN.out (by omega) (by omega))
    have HRD := Lib.hid (sNull_at x0.P x0.C _ x0.R x0.C.toNat w1.drew (spII.rd_drew R0.out) hgp hV0 (by omega) (by omega) (by omega))
    have ne1 : ¬ (w.heap.size = w.heap.size + 1) := by omega
    have ne2 : ¬ (w.heap.size + 1 = w.heap.size) := by omega
    clear hV0 E wl nl K0 R0 HK0
    go_wp2_with (fail)
    go_region_held3 (fun wx => wx.cell? ⟨w.heap.size, 0, none⟩ = some (.int .i64 x0.P) ∧ wx.cell? ⟨w.heap.size, 1, none⟩ = some (.int .i64 x0.C) ∧ wx.cell? ⟨w.heap.size, 2, none⟩ = some (.slice A0 x0.R.length c0)) (first | go_keep | assumption) (first | (go_at_call 86; refine (HRD.out).mono ?_; rintro e w3 ⟨u3, S3, rfl, ow3, hS3, hb3⟩; have SM3 : w3.cell? ⟨w.heap.size, 0, none⟩ = some (.int .i64 x0.P) ∧ w3.cell? ⟨w.heap.size, 1, none⟩ = some (.int .i64 x0.C) ∧ w3.cell? ⟨w.heap.size, 2, none⟩ = some (.slice A0 x0.R.length c0) := ⟨(Blk.cell ((Ba1.drew).below hb3) 0 (by simp)), (Blk.cell ((Ba1.drew).below hb3) 1 (by simp)), (Blk.cell ((Ba1.drew).below hb3) 2 (by simp))⟩) | (go_at_call 54; refine (sMake_any x0.P (x0.R.length : Int) _ _ _ (spII.own_rd ow3) HSZ.out).mono ?_; rintro e w4 ⟨u4, S4, rfl, ⟨v4, T4, rfl, o4, sub4, -⟩, hS4, hb4⟩; obtain ⟨A4, c4, rfl, -, -⟩ := spII.own_rd o4; have SM4 : w4.cell? ⟨w.heap.size, 0, none⟩ = some (.int .i64 x0.P) ∧ w4.cell? ⟨w.heap.size, 1, none⟩ = some (.int .i64 x0.C) ∧ w4.cell? ⟨w.heap.size, 2, none⟩ = some (.slice A0 x0.R.length c0) := ⟨(Blk.cell (((Ba1.drew).below hb3).below hb4) 0 (by simp)), (Blk.cell (((Ba1.drew).below hb3).below hb4) 1 (by simp)), (Blk.cell (((Ba1.drew).below hb3).below hb4) 2 (by simp))⟩; have Brz := ((Br1.drew).below hb3).below hb4; obtain ⟨blr, q0, q1, q2⟩ := Brz.c3; obtain ⟨f0, f1, f2⟩ := Brz.f3))
    all_goals
      have LZ3 := bstep L1.drew L1.size hb3
      have LZ4 := bstep LZ3 LZ3.size hb4
      have ltz := Br1.lt
      have hq0 : w1.heap.size = w1.drew.heap.size := rfl
      have hq3 := hb3.size
      have hq4 := hb4.size
      have HT : Hid (∀ k, T4 k → w.heap.size ≤ k) := Lib.hid fun k h => by have := hS4 k (sub4 k h); omega
      have nT : ¬ T4 (w.heap.size + 1) := fun h => by have := hS4 _ (sub4 _ h); omega
      have HO := Lib.hid o4
      clear o4 sub4 hS4
      go_wp2_with (fail)
      refine bodyPost_ret (v := .tuple #[.agg #[.int .i64 x0.P, .int .i64 (x0.R.length : Int), .slice A4 (Num.nullR x0.P x0.R x0.C.toNat).length c4], .int .i64 0]) (by simp [results, Try.results37, go_sem, blr, q0, q1, q2]) rfl ?_
      rw [HER.out, HEC.out]
      refine MadeC.mat (S := T4) rfl ?_ HT.out HCB.out ?_
      · exact spII.own_set (spII.own_set (spII.own_set HO.out (p := ⟨w.heap.size + 1, 0, none⟩) nT _) (p := ⟨w.heap.size + 1, 1, none⟩) nT _) (p := ⟨w.heap.size + 1, 2, none⟩) nT _
      · exact ((LZ4.setCell (p := ⟨w.heap.size + 1, 0, none⟩) (by simp; try omega) _).setCell (p := ⟨w.heap.size + 1, 1, none⟩) (by simp; try omega) _).setCell (p := ⟨w.heap.size + 1, 2, none⟩) (by simp; try omega) _
end Go.Proofs.Ytbmjkkcjiofkpaa
