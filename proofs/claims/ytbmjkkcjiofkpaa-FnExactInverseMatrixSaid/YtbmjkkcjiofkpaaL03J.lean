/- The code of a square matrix; the program's InverseMatrix. -/
import Derived.Test.YtbmjkkcjiofkpaaL03G
import Derived.Test.YtbmjkkcjiofkpaaL02L
namespace Go.Proofs.Ytbmjkkcjiofkpaa
open Go.RowKit
set_option linter.unusedVariables false
set_option linter.unusedSimpArgs false

theorem behind_eqk (p C' : Int) (C : Nat) (A : Option Addr) (c : Nat) (rows : List (List Int)) (w : World) (h : RowsAt p w A rows) (hl : rows.length ≤ 1000) (hC : ∀ j, j < rows.length → C < (rows.getD j []).length ∧ (rows.getD j []).length ≤ 1000) (e : C' = (C : Int)) :
    Calls Try.prog 51 #[.int .i64 C', .slice A rows.length c] w fun e w' => ∃ v, e = .returned v ∧ (spRR p).rd w' v (rows.map (List.drop C)) ∧ Below w.heap.size w w' := by
  subst e
  exact behind_any p C A c rows w h hl hC
theorem place_eqk (p k' : Int) (v : Value) (e : List (List Int)) (k : Nat) (w : World) (h : (spRR p).rd w v e) (hl : e.length ≤ 1000) (hr : ∀ i, i < e.length → (e.getD i []).length ≤ 1000) (hk : k ≤ 1000) (e1 : k' = (k : Int)) :
    Calls Try.prog 49 #[v, .int .i64 k'] w fun e' w' => e' = .returned (.int .i64 (Num.place e k : Nat)) ∧ w = w' := by
  subst e1
  exact place_any p v e k w h hl hr hk
theorem Mat.sq_zero {a : Mat} (h : a.sq = 0) : a.ok = true ∧ (a.R.length : Int) = a.C := by
  unfold Mat.sq at h
  cases hk : a.ok with
  | false => rw [hk] at h; simp at h
  | true =>
    rw [hk] at h
    by_cases e : (a.R.length : Int) = a.C
    · exact ⟨rfl, e⟩
    · simp [e] at h
theorem Mat.sq_two {a : Mat} (hk : a.ok = true) (h : ¬ (a.R.length : Int) = a.C) : a.sq = 2 := by
  unfold Mat.sq; simp [hk, h]
theorem Mat.sq_one {a : Mat} (hk : a.ok = false) : a.sq = 1 := by
  unfold Mat.sq; simp [hk]
theorem Mat.sq_ok {a : Mat} (hk : a.ok = true) (h : (a.R.length : Int) = a.C) : a.sq = 0 := by
  unfold Mat.sq; simp [hk, h]
theorem invR_len {p : Int} {C : Nat} {rows : List (List Int)} (hp : Num.gp p = true) (h : ∀ i, i < rows.length → Num.Vec p C (rows.getD i [])) : ∀ i, i < (Num.invR p rows C).length → ((Num.invR p rows C).getD i []).length = rows.length := fun i hi => by
  have E := Num.wide_ech hp h
  unfold Num.invR at hi ⊢
  have hi' : i < (Num.wideE p rows).length := by simpa using hi
  rw [Num.map_getD hi', List.length_drop, (E.vec _ hi').len]
  omega
set_option maxRecDepth 100000 in
set_option maxHeartbeats 1000000 in
theorem squareCode_ok (v0 : Value) (x0 : Mat) (w : World) (h0 : spMat.rd w v0 x0) : Calls Try.prog 47 #[v0] w fun e w' => e = .returned (.int .i64 x0.sq) ∧ Below w.heap.size w w' := by
  obtain ⟨A0, n0, c0, rfl, r0⟩ := spMat_form h0
  obtain ⟨rfl, -, -, -⟩ := rdII_of r0
  have b0 : Below w.heap.size w (w.alloc (.cells [.int .i64 x0.P, .int .i64 x0.C, .slice A0 x0.R.length c0].toArray 26)) := by go_grown
  have Ba : Blk (w.alloc (.cells [.int .i64 x0.P, .int .i64 x0.C, .slice A0 x0.R.length c0].toArray 26)) w.heap.size [.int .i64 x0.P, .int .i64 x0.C, .slice A0 x0.R.length c0] 26 := Blk.new w [.int .i64 x0.P, .int .i64 x0.C, .slice A0 x0.R.length c0] 26
  have K0 := Lib.hid (spMat.rd_below h0 b0)
  clear h0 r0
  cases hk0 : x0.ok with
  | false =>
    have HEC := Lib.hid (Mat.sq_one hk0)
    have HC := Lib.hid (isMat_no _ x0 _ K0.out hk0)
    go_enter Try.func47, Try.ntmps47
    go_wp2_with (fail)
    refine HC.out.mono ?_; rintro e w1 ⟨rfl, hb1⟩
    have L1 := bstep b0 b0.size hb1
    clear hb1 Ba
    go_wp2_with (fail)
    go_ret
    exact ⟨by rw [HEC.out]; rfl, L1⟩
  | true =>
    have HC := Lib.hid (isMat_yes _ x0 _ K0.out hk0)
    have HK0 := Lib.hid hk0
    clear hk0
    by_cases hc : (x0.R.length : Int) = x0.C
    · have HEC := Lib.hid (Mat.sq_ok HK0.out hc)
      have HCC := Lib.hid hc
      go_enter Try.func47, Try.ntmps47
      go_wp2_with (fail)
      refine HC.out.mono ?_; rintro e w1 ⟨rfl, hb1⟩
      have L1 := bstep b0 b0.size hb1
      obtain ⟨bl1, a0, a1, a2⟩ := (Ba.below hb1).c3
      clear hb1 Ba
      go_wp2_with (fail)
      go_ret
      exact ⟨by rw [HEC.out]; rfl, L1⟩
    · have HEC := Lib.hid (Mat.sq_two HK0.out hc)
      go_enter Try.func47, Try.ntmps47
      go_wp2_with (fail)
      refine HC.out.mono ?_; rintro e w1 ⟨rfl, hb1⟩
      have L1 := bstep b0 b0.size hb1
      obtain ⟨bl1, a0, a1, a2⟩ := (Ba.below hb1).c3
      clear hb1 Ba
      go_wp2_with (fail)
      go_ret
      exact ⟨by rw [HEC.out]; rfl, L1⟩
set_option maxRecDepth 100000 in
set_option maxHeartbeats 2000000 in
theorem iInverseMatrix_ok (v0 : Value) (x0 : Mat) (w : World) (h0 : spMat.rd w v0 x0) (s0 : spMat.sz x0 ≤ 1048576) : Calls Try.prog 16 #[v0] w (MadeC spMat (rInverseMatrix x0) (cInverseMatrix x0) w) := by
  obtain ⟨A0, n0, c0, rfl, r0⟩ := spMat_form h0
  obtain ⟨rfl, -, -, -⟩ := rdII_of r0
  have b0 : Below w.heap.size w ((w.alloc (.cells [.int .i64 x0.P, .int .i64 x0.C, .slice A0 x0.R.length c0].toArray 26)).alloc (.cells [.int .i64 0, .int .i64 0, .slice none 0 0].toArray 26)) := by go_grown
  have Ba : Blk ((w.alloc (.cells [.int .i64 x0.P, .int .i64 x0.C, .slice A0 x0.R.length c0].toArray 26)).alloc (.cells [.int .i64 0, .int .i64 0, .slice none 0 0].toArray 26)) w.heap.size [.int .i64 x0.P, .int .i64 x0.C, .slice A0 x0.R.length c0] 26 := (Blk.new w [.int .i64 x0.P, .int .i64 x0.C, .slice A0 x0.R.length c0] 26).alloc _
  have Br : Blk ((w.alloc (.cells [.int .i64 x0.P, .int .i64 x0.C, .slice A0 x0.R.length c0].toArray 26)).alloc (.cells [.int .i64 0, .int .i64 0, .slice none 0 0].toArray 26)) (w.heap.size + 1) [.int .i64 0, .int .i64 0, .slice none 0 0] 26 := by have := Blk.new (w.alloc (.cells [.int .i64 x0.P, .int .i64 x0.C, .slice A0 x0.R.length c0].toArray 26)) [.int .i64 0, .int .i64 0, .slice none 0 0] 26; rwa [World.size_alloc] at this
  have K0 := Lib.hid (spMat.rd_below h0 b0)
  have R0 := Lib.hid (spII.rd_below r0 b0)
  clear h0 r0
  have HC0 := squareCode_ok _ x0 _ K0.out
  by_cases hs0 : x0.sq = 0
  · rw [hs0] at HC0
    have HC := Lib.hid HC0
    obtain ⟨hk0, hsq⟩ := Mat.sq_zero hs0
    have HK0 := Lib.hid hk0
    have HS0 := Lib.hid hs0
    have HSQ := Lib.hid hsq
    clear HC0 hk0 hsq hs0
    obtain ⟨hgp, hp1, hp2, hC0, hC1, hR8, hV0⟩ := Mat.ok_out HK0.out
    go_enter Try.func16, Try.ntmps16
    go_wp2_with (fail)
    refine HC.out.mono ?_; rintro e w1 ⟨rfl, hb1⟩
    have L1 := bstep b0 b0.size hb1
    have Br1 := Br.below hb1
    have Ba1 := Ba.below hb1
    replace K0 := Lib.hid (spMat.rd_below K0.out hb1)
    clear hb1 Ba Br b0 HC R0
    obtain ⟨bl1, a0, a1, a2⟩ := Ba1.c3
    have E := Num.wide_ech hgp hV0
    have wl := Num.wide_len hgp hV0
    have rowlen : ∀ j, j < (Num.wideE x0.P x0.R).length → ((Num.wideE x0.P x0.R).getD j []).length = x0.C.toNat + x0.R.length := fun j hj => (E.vec j hj).len
    have sq1 : x0.R.length = x0.C.toNat := by have := HSQ.out; omega
    have hplE := Num.place_le (Num.wideE x0.P x0.R) x0.C.toNat
    have HLN : Hid (∀ i, i < (Num.invR x0.P x0.R x0.C.toNat).length → ((Num.invR x0.P x0.R x0.C.toNat).getD i []).length = x0.R.length) := Lib.hid (invR_len hgp hV0)
    have il : (Num.invR x0.P x0.R x0.C.toNat).length = x0.R.length := by unfold Num.invR; rw [List.length_map, wl]
    have HCB : Hid (spMat.cnt ⟨x0.P, x0.C, Num.invR x0.P x0.R x0.C.toNat⟩ ≤ 1000000000) := Lib.hid (cnt_bd HLN.out (by omega) (by omega))
    have HLE : Hid (∀ j, j < (Num.invR x0.P x0.R x0.C.toNat).length → ((Num.invR x0.P x0.R x0.C.toNat).getD j []).length ≤ 1000) := Lib.hid fun j hj => by rw [HLN.out j hj]; omega
    have HL8 : Hid ((Num.invR x0.P x0.R x0.C.toNat).length ≤ 1000) := Lib.hid (by omega)
    have HOR := Lib.hid (origins_any _ x0 w1 K0.out HK0.out)
    have HNR : Hid ((Num.wideE x0.P x0.R).map (List.drop x0.C.toNat) = Num.invR x0.P x0.R x0.C.toNat) := Lib.hid rfl
    have HRC : Hid (∀ j, j < (Num.wideE x0.P x0.R).length → x0.C.toNat < ((Num.wideE x0.P x0.R).getD j []).length ∧ ((Num.wideE x0.P x0.R).getD j []).length ≤ 1000) := Lib.hid fun j hj => by rw [rowlen j hj]; omega
    have HRP : Hid (∀ j, j < (Num.wideE x0.P x0.R).length → 0 < ((Num.wideE x0.P x0.R).getD j []).length ∧ ((Num.wideE x0.P x0.R).getD j []).length ≤ 1000) := Lib.hid fun j hj => by rw [rowlen j hj]; omega
    have wl1 : (Num.wideE x0.P x0.R).length ≤ 8 := by omega
    by_cases hfull : Num.place (Num.wideE x0.P x0.R) x0.C.toNat < x0.C.toNat
    · have HEC : Hid (cInverseMatrix x0 = 4) := Lib.hid (by unfold cInverseMatrix; simp [HS0.out, hfull])
      have HER : Hid (rInverseMatrix x0 = noMat) := Lib.hid (by unfold rInverseMatrix; rw [HEC.out]; rfl)
      have hlc : ((Num.place (Num.wideE x0.P x0.R) x0.C.toNat : Nat) : Int) < x0.C := by omega
      clear hV0 E wl rowlen K0 sq1 il hfull HLN HCB HLE HL8 HNR HRC
      generalize he : Num.wideE x0.P x0.R = e at *
      clear he
      generalize hpl : Num.place e x0.C.toNat = pl at *
      have HPLQ := Lib.hid hpl
      clear hpl
      go_wp2_with (fail)
      refine HOR.out.mono ?_; rintro e' w2 ⟨u2, S2, rfl, ow2, hS2, hb2⟩
      obtain ⟨Ae, ce, rfl, -, -⟩ := (spRR x0.P).own_rd ow2
      have L2 := bstep L1 L1.size hb2
      have Br2 := Br1.below hb2
      have Ba2 := Ba1.below hb2
      obtain ⟨bl2, d0, d1, d2⟩ := Ba2.c3
      have HPC0 := place_eqk x0.P x0.C _ e x0.C.toNat w2 ((spRR x0.P).own_rd ow2) (by omega) (fun i hi => (HRP.out i hi).2) (by omega) (by omega)
      rw [HPLQ.out] at HPC0
      have HPC := Lib.hid HPC0
      have HRA0 := RowsAt.of ow2 (fun j hj => (HRP.out j hj).1) 0 Ae (fun g h => h)
      rw [List.drop_zero] at HRA0
      have HRA := Lib.hid HRA0
      clear HPC0 hb2 hS2 HOR ow2 HRA0 Br1 Ba1 bl1 a0 a1 a2
      go_wp2_with (fail)
      refine HPC.out.mono ?_; rintro e' w3 ⟨rfl, rfl⟩
      obtain ⟨blr, q0, q1, q2⟩ := Br2.c3
      obtain ⟨f0, f1, f2⟩ := Br2.f3
      go_wp2_with (fail)
      refine bodyPost_ret (v := .tuple #[.agg #[.int .i64 0, .int .i64 0, .slice none 0 0], .int .i64 4]) (by simp [results, Try.results16, go_sem, blr, q0, q1, q2]) rfl ?_
      rw [HER.out, HEC.out]
      exact MadeC.none rfl (((L2.setCell (p := ⟨w.heap.size + 1, 0, none⟩) (by simp; try omega) _).setCell (p := ⟨w.heap.size + 1, 1, none⟩) (by simp; try omega) _).setCell (p := ⟨w.heap.size + 1, 2, none⟩) (by simp; try omega) _)
    · have HEC : Hid (cInverseMatrix x0 = 0) := Lib.hid (by unfold cInverseMatrix; simp [HS0.out, hfull])
      have HER : Hid (rInverseMatrix x0 = ⟨x0.P, x0.C, Num.invR x0.P x0.R x0.C.toNat⟩) := Lib.hid (by unfold rInverseMatrix; rw [HEC.out]; rfl)
      have hlc : ¬ (((Num.place (Num.wideE x0.P x0.R) x0.C.toNat : Nat) : Int) < x0.C) := by omega
      have ne1 : ¬ (w.heap.size = w.heap.size + 1) := by omega
      have ne2 : ¬ (w.heap.size + 1 = w.heap.size) := by omega
      clear hV0 E wl rowlen K0 sq1 il hfull HLN
      generalize he : Num.wideE x0.P x0.R = e at *
      clear he
      generalize hpl : Num.place e x0.C.toNat = pl at *
      have HPLQ := Lib.hid hpl
      clear hpl
      go_wp2_with (fail)
      refine HOR.out.mono ?_; rintro e' w2 ⟨u2, S2, rfl, ow2, hS2, hb2⟩
      obtain ⟨Ae, ce, rfl, -, -⟩ := (spRR x0.P).own_rd ow2
      have L2 := bstep L1 L1.size hb2
      have Br2 := Br1.below hb2
      have Ba2 := Ba1.below hb2
      obtain ⟨bl2, d0, d1, d2⟩ := Ba2.c3
      have HPC0 := place_eqk x0.P x0.C _ e x0.C.toNat w2 ((spRR x0.P).own_rd ow2) (by omega) (fun i hi => (HRP.out i hi).2) (by omega) (by omega)
      rw [HPLQ.out] at HPC0
      have HPC := Lib.hid HPC0
      have HRA0 := RowsAt.of ow2 (fun j hj => (HRP.out j hj).1) 0 Ae (fun g h => h)
      rw [List.drop_zero] at HRA0
      have HRA := Lib.hid HRA0
      clear HPC0 hb2 hS2 HOR ow2 HRA0 Br1 Ba1 bl1 a0 a1 a2
      go_wp2_with (fail)
      refine HPC.out.mono ?_; rintro e' w3 ⟨rfl, rfl⟩
      have HBH : Hid (Calls Try.prog 51 #[.int .i64 x0.C, .slice Ae (e.length) ce] w2.drew fun e' w' => ∃ v, e' = .returned v ∧ (spRR x0.P).rd w' v (Num.invR x0.P x0.R x0.C.toNat) ∧ Below w2.drew.heap.size w2.drew w') := Lib.hid (by
        have h := behind_eqk x0.P x0.C x0.C.toNat Ae ce e w2.drew (HRA.out.below ((Below.refl _ _).drew)) (by omega) HRC.out (by omega)
        rw [HNR.out] at h
        exact h)
      clear HRA HRC HNR
      go_wp2_with (fail)
      go_region_held3 (fun wx => wx.cell? ⟨w.heap.size, 0, none⟩ = some (.int .i64 x0.P) ∧ wx.cell? ⟨w.heap.size, 1, none⟩ = some (.int .i64 x0.C) ∧ wx.cell? ⟨w.heap.size, 2, none⟩ = some (.slice A0 x0.R.length c0)) (first | go_keep | assumption) (first | (go_at_call 51; refine HBH.out.mono ?_; rintro e' w3 ⟨u3, rfl, rd3, hb3⟩; have SM3 : w3.cell? ⟨w.heap.size, 0, none⟩ = some (.int .i64 x0.P) ∧ w3.cell? ⟨w.heap.size, 1, none⟩ = some (.int .i64 x0.C) ∧ w3.cell? ⟨w.heap.size, 2, none⟩ = some (.slice A0 x0.R.length c0) := ⟨(Blk.cell (Ba2.drew.below hb3) 0 (by simp)), (Blk.cell (Ba2.drew.below hb3) 1 (by simp)), (Blk.cell (Ba2.drew.below hb3) 2 (by simp))⟩) | (go_at_call 50; refine (matrixOf_any x0.P x0.C _ _ _ rd3 HL8.out HLE.out).mono ?_; rintro e' w4 ⟨u4, S4, rfl, ⟨v4, T4, rfl, o4, sub4, -⟩, hS4, hb4⟩; obtain ⟨A4, c4, rfl, -, -⟩ := spII.own_rd o4; have SM4 : w4.cell? ⟨w.heap.size, 0, none⟩ = some (.int .i64 x0.P) ∧ w4.cell? ⟨w.heap.size, 1, none⟩ = some (.int .i64 x0.C) ∧ w4.cell? ⟨w.heap.size, 2, none⟩ = some (.slice A0 x0.R.length c0) := ⟨(Blk.cell ((Ba2.drew.below hb3).below hb4) 0 (by simp)), (Blk.cell ((Ba2.drew.below hb3).below hb4) 1 (by simp)), (Blk.cell ((Ba2.drew.below hb3).below hb4) 2 (by simp))⟩; have Brz := (Br2.drew.below hb3).below hb4; obtain ⟨blr, q0, q1, q2⟩ := Brz.c3; obtain ⟨f0, f1, f2⟩ := Brz.f3))
      all_goals
        have LZ3 := bstep L2.drew L2.size hb3
        have LZ4 := bstep LZ3 LZ3.size hb4
        have ltz := Br2.lt
        have hq0 : w2.heap.size = w2.drew.heap.size := rfl
        have hq3 := hb3.size
        have hq4 := hb4.size
        have HT : Hid (∀ k, T4 k → w.heap.size ≤ k) := Lib.hid fun k h => by have := hS4 k (sub4 k h); omega
        have nT : ¬ T4 (w.heap.size + 1) := fun h => by have := hS4 _ (sub4 _ h); omega
        have HO := Lib.hid o4
        clear o4 sub4 hS4
        go_wp2_with (fail)
        refine bodyPost_ret (v := .tuple #[.agg #[.int .i64 x0.P, .int .i64 x0.C, .slice A4 (Num.invR x0.P x0.R x0.C.toNat).length c4], .int .i64 0]) (by simp [results, Try.results16, go_sem, blr, q0, q1, q2]) rfl ?_
        rw [HER.out, HEC.out]
        refine MadeC.mat (S := T4) rfl ?_ HT.out HCB.out ?_
        · exact spII.own_set (spII.own_set (spII.own_set HO.out (p := ⟨w.heap.size + 1, 0, none⟩) nT _) (p := ⟨w.heap.size + 1, 1, none⟩) nT _) (p := ⟨w.heap.size + 1, 2, none⟩) nT _
        · exact ((LZ4.setCell (p := ⟨w.heap.size + 1, 0, none⟩) (by simp; try omega) _).setCell (p := ⟨w.heap.size + 1, 1, none⟩) (by simp; try omega) _).setCell (p := ⟨w.heap.size + 1, 2, none⟩) (by simp; try omega) _
  · have HEC : Hid (cInverseMatrix x0 = x0.sq) := Lib.hid (by unfold cInverseMatrix; simp [hs0])
    have HER : Hid (rInverseMatrix x0 = noMat) := Lib.hid (by unfold rInverseMatrix; rw [HEC.out]; simp [hs0])
    have HC := Lib.hid HC0
    clear HC0
    generalize x0.sq = q at *
    go_enter Try.func16, Try.ntmps16
    go_wp2_with (fail)
    refine HC.out.mono ?_; rintro e w1 ⟨rfl, hb1⟩
    have L1 := bstep b0 b0.size hb1
    have Br1 := Br.below hb1
    clear hb1 Ba Br
    obtain ⟨blr, q0, q1, q2⟩ := Br1.c3
    obtain ⟨f0, f1, f2⟩ := Br1.f3
    go_wp2_with (fail)
    refine bodyPost_ret (v := .tuple #[.agg #[.int .i64 0, .int .i64 0, .slice none 0 0], .int .i64 q]) (by simp [results, Try.results16, go_sem, blr, q0, q1, q2]) rfl ?_
    rw [HER.out, HEC.out]
    exact MadeC.none rfl (((L1.setCell (p := ⟨w.heap.size + 1, 0, none⟩) (by simp; try omega) _).setCell (p := ⟨w.heap.size + 1, 1, none⟩) (by simp; try omega) _).setCell (p := ⟨w.heap.size + 1, 2, none⟩) (by simp; try omega) _)
end Go.Proofs.Ytbmjkkcjiofkpaa
