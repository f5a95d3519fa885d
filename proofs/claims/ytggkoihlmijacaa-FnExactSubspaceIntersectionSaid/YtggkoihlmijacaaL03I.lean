/- The program's LeftKernel. -/
import Derived.Test.YtggkoihlmijacaaL03G
import Derived.Test.YtggkoihlmijacaaL03H
namespace Go.Proofs.Ytggkoihlmijacaa
open Go.RowKit
set_option linter.unusedVariables false
set_option linter.unusedSimpArgs false

theorem behind_at (p C' : Int) (C : Nat) (A : Option Addr) (c : Nat) (rows : List (List Int)) (w : World) (h : RowsAt p w A rows) (hl : rows.length ≤ 1000) (hC : ∀ j, j < rows.length → C < (rows.getD j []).length ∧ (rows.getD j []).length ≤ 1000) (e : C' = (C : Int)) :
    Calls Try.prog 110 #[.int .i64 C', .slice A rows.length c] w fun e w' => ∃ v, e = .returned v ∧ (spRR p).rd w' v (rows.map (List.drop C)) ∧ Below w.heap.size w w' := by
  subst e
  exact behind_any p C A c rows w h hl hC
theorem place_at (p k' : Int) (v : Value) (e : List (List Int)) (k : Nat) (w : World) (h : (spRR p).rd w v e) (hl : e.length ≤ 1000) (hr : ∀ i, i < e.length → (e.getD i []).length ≤ 1000) (hk : k ≤ 1000) (e1 : k' = (k : Int)) :
    Calls Try.prog 92 #[v, .int .i64 k'] w fun e' w' => e' = .returned (.int .i64 (Num.place e k : Nat)) ∧ w = w' := by
  subst e1
  exact place_any p v e k w h hl hr hk
theorem own_slice {p : Int} {w : World} {S : Nat → Prop} {A : Option Addr} {n c : Nat} {rows : List (List Int)} (h : (spRR p).own w S (.slice A n c) rows) : n = rows.length ∧ ((A = none ∧ n = 0 ∧ c = 0) ∨ ∃ g, A = some ⟨g, 0, none⟩ ∧ n ≤ c ∧ c ≤ maxLen) := by
  obtain ⟨vs, T, h1, _⟩ := h
  rcases h1.2 with ⟨hv, h0⟩ | ⟨g, cap, cur, hv, hb, hg, q1, q2, q3⟩
  · simp only [Value.slice.injEq] at hv
    exact ⟨by omega, .inl ⟨hv.1, by omega, hv.2.2⟩⟩
  · simp only [Value.slice.injEq] at hv
    exact ⟨hv.2.1, .inr ⟨g, hv.1, by omega, by omega⟩⟩
set_option maxRecDepth 100000 in
set_option maxHeartbeats 2000000 in
theorem iLeftKernel_ok (v0 : Value) (x0 : Mat) (w : World) (h0 : spMat.rd w v0 x0) (s0 : spMat.sz x0 ≤ 1048576) : Calls Try.prog 72 #[v0] w (MadeC spMat (rLeftKernel x0) (cLeftKernel x0) w) := by
  obtain ⟨A0, n0, c0, rfl, r0⟩ := spMat_form h0
  obtain ⟨rfl, -, -, -⟩ := rdII_of r0
  have b0 : Below w.heap.size w ((w.alloc (.cells [.int .i64 x0.P, .int .i64 x0.C, .slice A0 x0.R.length c0].toArray 27)).alloc (.cells [.int .i64 0, .int .i64 0, .slice none 0 0].toArray 27)) := by go_grown
  have Ba : Blk ((w.alloc (.cells [.int .i64 x0.P, .int .i64 x0.C, .slice A0 x0.R.length c0].toArray 27)).alloc (.cells [.int .i64 0, .int .i64 0, .slice none 0 0].toArray 27)) w.heap.size [.int .i64 x0.P, .int .i64 x0.C, .slice A0 x0.R.length c0] 27 := (Blk.new w [.int .i64 x0.P, .int .i64 x0.C, .slice A0 x0.R.length c0] 27).alloc _
  have Br : Blk ((w.alloc (.cells [.int .i64 x0.P, .int .i64 x0.C, .slice A0 x0.R.length c0].toArray 27)).alloc (.cells [.int .i64 0, .int .i64 0, .slice none 0 0].toArray 27)) (w.heap.size + 1) [.int .i64 0, .int .i64 0, .slice none 0 0] 27 := by have := Blk.new (w.alloc (.cells [.int .i64 x0.P, .int .i64 x0.C, .slice A0 x0.R.length c0].toArray 27)) [.int .i64 0, .int .i64 0, .slice none 0 0] 27; rwa [World.size_alloc] at this
  have K0 := Lib.hid (spMat.rd_below h0 b0)
  have R0 := Lib.hid (spII.rd_below r0 b0)
  clear h0 r0
  cases hk0 : x0.ok with
  | false =>
    have HEC : Hid (cLeftKernel x0 = 1) := Lib.hid (by unfold cLeftKernel; simp [hk0])
    have HER : Hid (rLeftKernel x0 = noMat) := Lib.hid (by unfold rLeftKernel; simp [hk0])
    have HC := Lib.hid (isMat_no _ x0 _ K0.out hk0)
    go_enter Try.func72, Try.ntmps72
    go_wp2_with (fail)
    refine HC.out.mono ?_; rintro e w1 ⟨rfl, hb1⟩
    have L1 := bstep b0 b0.size hb1
    have Br1 := Br.below hb1
    clear hb1 Ba Br
    obtain ⟨blr, q0, q1, q2⟩ := Br1.c3
    obtain ⟨f0, f1, f2⟩ := Br1.f3
    go_wp2_with (fail)
    refine bodyPost_ret (v := .tuple #[.agg #[.int .i64 0, .int .i64 0, .slice none 0 0], .int .i64 1]) (by simp [results, Try.results72, go_sem, blr, q0, q1, q2]) rfl ?_
    rw [HER.out, HEC.out]
    exact MadeC.none rfl (((L1.setCell (p := ⟨w.heap.size + 1, 0, none⟩) (by simp; try omega) _).setCell (p := ⟨w.heap.size + 1, 1, none⟩) (by simp; try omega) _).setCell (p := ⟨w.heap.size + 1, 2, none⟩) (by simp; try omega) _)
  | true =>
    have HC := Lib.hid (isMat_yes _ x0 _ K0.out hk0)
    have HK0 := Lib.hid hk0
    clear hk0
    go_enter Try.func72, Try.ntmps72
    go_wp2_with (fail)
    refine HC.out.mono ?_; rintro e w1 ⟨rfl, hb1⟩
    have L1 := bstep b0 b0.size hb1
    have Br1 := Br.below hb1
    have Ba1 := Ba.below hb1
    replace K0 := Lib.hid (spMat.rd_below K0.out hb1)
    replace R0 := Lib.hid (spII.rd_below R0.out hb1)
    clear hb1 Ba Br b0 HC
    obtain ⟨bl1, a0, a1, a2⟩ := Ba1.c3
    obtain ⟨hgp, hp1, hp2, hC0, hC1, hR8, hV0⟩ := Mat.ok_out HK0.out
    have HEC : Hid (cLeftKernel x0 = 0) := Lib.hid (by unfold cLeftKernel; simp [HK0.out])
    have HER : Hid (rLeftKernel x0 = ⟨x0.P, (x0.R.length : Int), Num.nullR x0.P x0.R x0.C.toNat⟩) := Lib.hid (by unfold rLeftKernel; simp [HK0.out])
    have E := Num.wide_ech hgp hV0
    have wl := Num.wide_len hgp hV0
    have nl : (Num.nullR x0.P x0.R x0.C.toNat).length ≤ x0.R.length := by unfold Num.nullR; simp; omega
    have HLN : Hid (∀ i, i < (Num.nullR x0.P x0.R x0.C.toNat).length → ((Num.nullR x0.P x0.R x0.C.toNat).getD i []).length = x0.R.length) := Lib.hid (nullR_len hgp hV0)
    have HCB : Hid (spMat.cnt ⟨x0.P, (x0.R.length : Int), Num.nullR x0.P x0.R x0.C.toNat⟩ ≤ 1000000000) := Lib.hid (cnt_bd HLN.out (by omega) (by omega))
    have HOR := Lib.hid (origins_any _ x0 w1 K0.out HK0.out)
    have HLE : Hid (∀ j, j < (Num.nullR x0.P x0.R x0.C.toNat).length → ((Num.nullR x0.P x0.R x0.C.toNat).getD j []).length ≤ 1000) := Lib.hid fun j hj => by rw [HLN.out j hj]; omega
    have HL8 : Hid ((Num.nullR x0.P x0.R x0.C.toNat).length ≤ 1000) := Lib.hid (by omega)
    have HNR : Hid (((Num.wideE x0.P x0.R).drop (Num.place (Num.wideE x0.P x0.R) x0.C.toNat)).map (List.drop x0.C.toNat) = Num.nullR x0.P x0.R x0.C.toNat) := Lib.hid rfl
    have HRL : Hid (((Num.wideE x0.P x0.R).drop (Num.place (Num.wideE x0.P x0.R) x0.C.toNat)).length ≤ 1000) := Lib.hid (by rw [List.length_drop]; omega)
    have HRN : Hid (((Num.wideE x0.P x0.R).drop (Num.place (Num.wideE x0.P x0.R) x0.C.toNat)).length = (Num.wideE x0.P x0.R).length - Num.place (Num.wideE x0.P x0.R) x0.C.toNat) := Lib.hid List.length_drop
    have rowlen : ∀ j, j < (Num.wideE x0.P x0.R).length → ((Num.wideE x0.P x0.R).getD j []).length = x0.C.toNat + x0.R.length := fun j hj => (E.vec j hj).len
    have HRC : Hid (∀ j, j < ((Num.wideE x0.P x0.R).drop (Num.place (Num.wideE x0.P x0.R) x0.C.toNat)).length → x0.C.toNat < (((Num.wideE x0.P x0.R).drop (Num.place (Num.wideE x0.P x0.R) x0.C.toNat)).getD j []).length ∧ (((Num.wideE x0.P x0.R).drop (Num.place (Num.wideE x0.P x0.R) x0.C.toNat)).getD j []).length ≤ 1000) := Lib.hid fun j hj => by
      rw [List.length_drop] at hj
      have e : ((Num.wideE x0.P x0.R).drop (Num.place (Num.wideE x0.P x0.R) x0.C.toNat)).getD j [] = (Num.wideE x0.P x0.R).getD (Num.place (Num.wideE x0.P x0.R) x0.C.toNat + j) [] := by simp [List.getD_eq_getElem?_getD, List.getElem?_drop]
      rw [e, rowlen _ (by omega)]
      omega
    have HRP : Hid (∀ j, j < (Num.wideE x0.P x0.R).length → 0 < ((Num.wideE x0.P x0.R).getD j []).length ∧ ((Num.wideE x0.P x0.R).getD j []).length ≤ 1000) := Lib.hid fun j hj => by rw [rowlen j hj]; omega
    have wl1 : (Num.wideE x0.P x0.R).length ≤ 8 := by omega
    have hplE := Num.place_le (Num.wideE x0.P x0.R) x0.C.toNat
    clear hV0 E wl nl rowlen K0 R0
    generalize he : Num.wideE x0.P x0.R = e at *
    clear he
    generalize hpl : Num.place e x0.C.toNat = pl at *
    have HPLQ := Lib.hid hpl
    clear hpl
    go_wp2_with (fail)
    refine HOR.out.mono ?_; rintro e' w2 ⟨u2, S2, rfl, ow2, hS2, hb2⟩
    obtain ⟨Ae, ce, rfl, -, -⟩ := (spRR x0.P).own_rd ow2
    have L2 := bstep L1 L1.size hb2
    have Br2 := Br1.below hb2
    have Ba2 := Ba1.below hb2
    obtain ⟨bl2, d0, d1, d2⟩ := Ba2.c3
    have HPC0 := place_at x0.P x0.C _ e x0.C.toNat w2 ((spRR x0.P).own_rd ow2) (by omega) (fun i hi => (HRP.out i hi).2) (by omega) (by omega)
    rw [HPLQ.out] at HPC0
    have HPC := Lib.hid HPC0
    have hpl8 : (pl : Int) ≤ 8 := by omega
    have ne1 : ¬ (w.heap.size = w.heap.size + 1) := by omega
    have ne2 : ¬ (w.heap.size + 1 = w.heap.size) := by omega
    have plz : (0 : Int) ≤ (pl : Int) := by omega
    have plz2 : (pl : Int) ≤ (e.length : Int) := by omega
    obtain ⟨-, hA⟩ := own_slice ow2
    have HRA := RowsAt.of ow2 (fun j hj => (HRP.out j hj).1) pl
    have HRAH := Lib.hid HRA
    clear HPC0 hb2 hS2 HOR ow2 HRA Br1 Ba1 bl1 a0 a1 a2
    rcases hA with ⟨rfl, hz0, rfl⟩ | ⟨g, rfl, hce, hcm⟩
    · have pl0 : pl = 0 := by omega
      subst pl0
      have RA0 := HRAH.out none (fun g h => by cases h)
      have HZ0 := Lib.hid hz0
      have hz1 : (e.length : Int) = 0 := by omega
      clear hz0
      go_wp2_with (fail)
      refine HPC.out.mono ?_; rintro e' w3 ⟨rfl, rfl⟩
      have HBH : Hid (Calls Try.prog 110 #[.int .i64 x0.C, .slice none (e.length) (0)] w2.drew fun e w' => ∃ v, e = .returned v ∧ (spRR x0.P).rd w' v (Num.nullR x0.P x0.R x0.C.toNat) ∧ Below w2.drew.heap.size w2.drew w') := Lib.hid (by
        have h := behind_at x0.P x0.C x0.C.toNat none (0) (e.drop 0) w2.drew (RA0.below ((Below.refl _ _).drew)) (by have := HRL.out; omega) HRC.out (by omega)
        have hn : (e.drop 0).length = e.length := by rw [List.length_drop] <;> omega
        rw [hn, HNR.out] at h
        exact h)
      go_wp2_with (fail)
      go_region_held3 (fun wx => wx.cell? ⟨w.heap.size, 0, none⟩ = some (.int .i64 x0.P) ∧ wx.cell? ⟨w.heap.size, 1, none⟩ = some (.int .i64 x0.C) ∧ wx.cell? ⟨w.heap.size, 2, none⟩ = some (.slice A0 x0.R.length c0)) (first | go_keep | assumption) (first | (go_at_call 110; refine HBH.out.mono ?_; rintro e w3 ⟨u3, rfl, rd3, hb3⟩; have SM3 : w3.cell? ⟨w.heap.size, 0, none⟩ = some (.int .i64 x0.P) ∧ w3.cell? ⟨w.heap.size, 1, none⟩ = some (.int .i64 x0.C) ∧ w3.cell? ⟨w.heap.size, 2, none⟩ = some (.slice A0 x0.R.length c0) := ⟨(Blk.cell (Ba2.drew.below hb3) 0 (by simp)), (Blk.cell (Ba2.drew.below hb3) 1 (by simp)), (Blk.cell (Ba2.drew.below hb3) 2 (by simp))⟩) | (go_at_call 65; refine (matrixOf_any x0.P (x0.R.length : Int) _ _ _ rd3 HL8.out HLE.out).mono ?_; rintro e w4 ⟨u4, S4, rfl, ⟨v4, T4, rfl, o4, sub4, -⟩, hS4, hb4⟩; obtain ⟨A4, c4, rfl, -, -⟩ := spII.own_rd o4; have SM4 : w4.cell? ⟨w.heap.size, 0, none⟩ = some (.int .i64 x0.P) ∧ w4.cell? ⟨w.heap.size, 1, none⟩ = some (.int .i64 x0.C) ∧ w4.cell? ⟨w.heap.size, 2, none⟩ = some (.slice A0 x0.R.length c0) := ⟨(Blk.cell ((Ba2.drew.below hb3).below hb4) 0 (by simp)), (Blk.cell ((Ba2.drew.below hb3).below hb4) 1 (by simp)), (Blk.cell ((Ba2.drew.below hb3).below hb4) 2 (by simp))⟩; have Brz := (Br2.drew.below hb3).below hb4; obtain ⟨blr, q0, q1, q2⟩ := Brz.c3; obtain ⟨f0, f1, f2⟩ := Brz.f3))
      all_goals
        have LZ3 := bstep L2.drew L2.size hb3
        have LZ4 := bstep LZ3 LZ3.size hb4
        have ltz := Br2.lt
        have hq0 : w2.heap.size = w2.drew.heap.size := rfl
        have hq3 := hb3.size
        have hq4 := hb4.size
        have HT : Hid (∀ k, T4 k → w.heap.size ≤ k) := Lib.hid fun k h => by have := hS4 k (sub4 k h); omega
        have nT : ¬ T4 (w.heap.size + 1) := fun h => by have := hS4 _ (sub4 _ h); omega
        have HO := Lib.hid o4
        clear o4 sub4 hS4
        go_wp2_with (fail)
        refine bodyPost_ret (v := .tuple #[.agg #[.int .i64 x0.P, .int .i64 (x0.R.length : Int), .slice A4 (Num.nullR x0.P x0.R x0.C.toNat).length c4], .int .i64 0]) (by simp [results, Try.results72, go_sem, blr, q0, q1, q2]) rfl ?_
        rw [HER.out, HEC.out]
        refine MadeC.mat (S := T4) rfl ?_ HT.out HCB.out ?_
        · exact spII.own_set (spII.own_set (spII.own_set HO.out (p := ⟨w.heap.size + 1, 0, none⟩) nT _) (p := ⟨w.heap.size + 1, 1, none⟩) nT _) (p := ⟨w.heap.size + 1, 2, none⟩) nT _
        · exact ((LZ4.setCell (p := ⟨w.heap.size + 1, 0, none⟩) (by simp; try omega) _).setCell (p := ⟨w.heap.size + 1, 1, none⟩) (by simp; try omega) _).setCell (p := ⟨w.heap.size + 1, 2, none⟩) (by simp; try omega) _
    · by_cases hpc : ce = pl
      · have RA0 : RowsAt x0.P w2 (some ⟨g, 0, none⟩) (e.drop pl) := fun j hj => absurd hj (by simp; omega)
        subst hpc
        unfold maxLen at hcm
        go_wp2_with (fail)
        refine HPC.out.mono ?_; rintro e' w3 ⟨rfl, rfl⟩
        have HBH : Hid (Calls Try.prog 110 #[.int .i64 x0.C, .slice (some ⟨g, 0, none⟩) (0) (0)] w2.drew fun e w' => ∃ v, e = .returned v ∧ (spRR x0.P).rd w' v (Num.nullR x0.P x0.R x0.C.toNat) ∧ Below w2.drew.heap.size w2.drew w') := Lib.hid (by
          have h := behind_at x0.P x0.C x0.C.toNat (some ⟨g, 0, none⟩) (0) (e.drop ce) w2.drew (RA0.below ((Below.refl _ _).drew)) (by have := HRL.out; omega) HRC.out (by omega)
          have hn : (e.drop ce).length = 0 := by rw [List.length_drop] <;> omega
          rw [hn, HNR.out] at h
          exact h)
        go_wp2_with (fail)
        go_region_held3 (fun wx => wx.cell? ⟨w.heap.size, 0, none⟩ = some (.int .i64 x0.P) ∧ wx.cell? ⟨w.heap.size, 1, none⟩ = some (.int .i64 x0.C) ∧ wx.cell? ⟨w.heap.size, 2, none⟩ = some (.slice A0 x0.R.length c0)) (first | go_keep | assumption) (first | (go_at_call 110; refine HBH.out.mono ?_; rintro e w3 ⟨u3, rfl, rd3, hb3⟩; have SM3 : w3.cell? ⟨w.heap.size, 0, none⟩ = some (.int .i64 x0.P) ∧ w3.cell? ⟨w.heap.size, 1, none⟩ = some (.int .i64 x0.C) ∧ w3.cell? ⟨w.heap.size, 2, none⟩ = some (.slice A0 x0.R.length c0) := ⟨(Blk.cell (Ba2.drew.below hb3) 0 (by simp)), (Blk.cell (Ba2.drew.below hb3) 1 (by simp)), (Blk.cell (Ba2.drew.below hb3) 2 (by simp))⟩) | (go_at_call 65; refine (matrixOf_any x0.P (x0.R.length : Int) _ _ _ rd3 HL8.out HLE.out).mono ?_; rintro e w4 ⟨u4, S4, rfl, ⟨v4, T4, rfl, o4, sub4, -⟩, hS4, hb4⟩; obtain ⟨A4, c4, rfl, -, -⟩ := spII.own_rd o4; have SM4 : w4.cell? ⟨w.heap.size, 0, none⟩ = some (.int .i64 x0.P) ∧ w4.cell? ⟨w.heap.size, 1, none⟩ = some (.int .i64 x0.C) ∧ w4.cell? ⟨w.heap.size, 2, none⟩ = some (.slice A0 x0.R.length c0) := ⟨(Blk.cell ((Ba2.drew.below hb3).below hb4) 0 (by simp)), (Blk.cell ((Ba2.drew.below hb3).below hb4) 1 (by simp)), (Blk.cell ((Ba2.drew.below hb3).below hb4) 2 (by simp))⟩; have Brz := (Br2.drew.below hb3).below hb4; obtain ⟨blr, q0, q1, q2⟩ := Brz.c3; obtain ⟨f0, f1, f2⟩ := Brz.f3))
        all_goals
          have LZ3 := bstep L2.drew L2.size hb3
          have LZ4 := bstep LZ3 LZ3.size hb4
          have ltz := Br2.lt
          have hq0 : w2.heap.size = w2.drew.heap.size := rfl
          have hq3 := hb3.size
          have hq4 := hb4.size
          have HT : Hid (∀ k, T4 k → w.heap.size ≤ k) := Lib.hid fun k h => by have := hS4 k (sub4 k h); omega
          have nT : ¬ T4 (w.heap.size + 1) := fun h => by have := hS4 _ (sub4 _ h); omega
          have HO := Lib.hid o4
          clear o4 sub4 hS4
          go_wp2_with (fail)
          refine bodyPost_ret (v := .tuple #[.agg #[.int .i64 x0.P, .int .i64 (x0.R.length : Int), .slice A4 (Num.nullR x0.P x0.R x0.C.toNat).length c4], .int .i64 0]) (by simp [results, Try.results72, go_sem, blr, q0, q1, q2]) rfl ?_
          rw [HER.out, HEC.out]
          refine MadeC.mat (S := T4) rfl ?_ HT.out HCB.out ?_
          · exact spII.own_set (spII.own_set (spII.own_set HO.out (p := ⟨w.heap.size + 1, 0, none⟩) nT _) (p := ⟨w.heap.size + 1, 1, none⟩) nT _) (p := ⟨w.heap.size + 1, 2, none⟩) nT _
          · exact ((LZ4.setCell (p := ⟨w.heap.size + 1, 0, none⟩) (by simp; try omega) _).setCell (p := ⟨w.heap.size + 1, 1, none⟩) (by simp; try omega) _).setCell (p := ⟨w.heap.size + 1, 2, none⟩) (by simp; try omega) _
      · have RA0 := HRAH.out (some ⟨g, pl, none⟩) (fun g' h => by simp at h; simp [h])
        have hcc : (pl : Int) ≤ (ce : Int) := by omega
        unfold maxLen at hcm
        go_wp2_with (fail)
        refine HPC.out.mono ?_; rintro e' w3 ⟨rfl, rfl⟩
        have HBH : Hid (Calls Try.prog 110 #[.int .i64 x0.C, .slice (some ⟨g, pl, none⟩) (e.length - pl) (ce - pl)] w2.drew fun e w' => ∃ v, e = .returned v ∧ (spRR x0.P).rd w' v (Num.nullR x0.P x0.R x0.C.toNat) ∧ Below w2.drew.heap.size w2.drew w') := Lib.hid (by
          have h := behind_at x0.P x0.C x0.C.toNat (some ⟨g, pl, none⟩) (ce - pl) (e.drop pl) w2.drew (RA0.below ((Below.refl _ _).drew)) (by have := HRL.out; omega) HRC.out (by omega)
          have hn : (e.drop pl).length = e.length - pl := by rw [List.length_drop] <;> omega
          rw [hn, HNR.out] at h
          exact h)
        go_wp2_with (fail)
        go_region_held3 (fun wx => wx.cell? ⟨w.heap.size, 0, none⟩ = some (.int .i64 x0.P) ∧ wx.cell? ⟨w.heap.size, 1, none⟩ = some (.int .i64 x0.C) ∧ wx.cell? ⟨w.heap.size, 2, none⟩ = some (.slice A0 x0.R.length c0)) (first | go_keep | assumption) (first | (go_at_call 110; refine HBH.out.mono ?_; rintro e w3 ⟨u3, rfl, rd3, hb3⟩; have SM3 : w3.cell? ⟨w.heap.size, 0, none⟩ = some (.int .i64 x0.P) ∧ w3.cell? ⟨w.heap.size, 1, none⟩ = some (.int .i64 x0.C) ∧ w3.cell? ⟨w.heap.size, 2, none⟩ = some (.slice A0 x0.R.length c0) := ⟨(Blk.cell (Ba2.drew.below hb3) 0 (by simp)), (Blk.cell (Ba2.drew.below hb3) 1 (by simp)), (Blk.cell (Ba2.drew.below hb3) 2 (by simp))⟩) | (go_at_call 65; refine (matrixOf_any x0.P (x0.R.length : Int) _ _ _ rd3 HL8.out HLE.out).mono ?_; rintro e w4 ⟨u4, S4, rfl, ⟨v4, T4, rfl, o4, sub4, -⟩, hS4, hb4⟩; obtain ⟨A4, c4, rfl, -, -⟩ := spII.own_rd o4; have SM4 : w4.cell? ⟨w.heap.size, 0, none⟩ = some (.int .i64 x0.P) ∧ w4.cell? ⟨w.heap.size, 1, none⟩ = some (.int .i64 x0.C) ∧ w4.cell? ⟨w.heap.size, 2, none⟩ = some (.slice A0 x0.R.length c0) := ⟨(Blk.cell ((Ba2.drew.below hb3).below hb4) 0 (by simp)), (Blk.cell ((Ba2.drew.below hb3).below hb4) 1 (by simp)), (Blk.cell ((Ba2.drew.below hb3).below hb4) 2 (by simp))⟩; have Brz := (Br2.drew.below hb3).below hb4; obtain ⟨blr, q0, q1, q2⟩ := Brz.c3; obtain ⟨f0, f1, f2⟩ := Brz.f3))
        all_goals
          have LZ3 := bstep L2.drew L2.size hb3
          have LZ4 := bstep LZ3 LZ3.size hb4
          have ltz := Br2.lt
          have hq0 : w2.heap.size = w2.drew.heap.size := rfl
          have hq3 := hb3.size
          have hq4 := hb4.size
          have HT : Hid (∀ k, T4 k → w.heap.size ≤ k) := Lib.hid fun k h => by have := hS4 k (sub4 k h); omega
          have nT : ¬ T4 (w.heap.size + 1) := fun h => by have := hS4 _ (sub4 _ h); omega
          have HO := Lib.hid o4
          clear o4 sub4 hS4
          go_wp2_with (fail)
          refine bodyPost_ret (v := .tuple #[.agg #[.int .i64 x0.P, .int .i64 (x0.R.length : Int), .slice A4 (Num.nullR x0.P x0.R x0.C.toNat).length c4], .int .i64 0]) (by simp [results, Try.results72, go_sem, blr, q0, q1, q2]) rfl ?_
          rw [HER.out, HEC.out]
          refine MadeC.mat (S := T4) rfl ?_ HT.out HCB.out ?_
          · exact spII.own_set (spII.own_set (spII.own_set HO.out (p := ⟨w.heap.size + 1, 0, none⟩) nT _) (p := ⟨w.heap.size + 1, 1, none⟩) nT _) (p := ⟨w.heap.size + 1, 2, none⟩) nT _
          · exact ((LZ4.setCell (p := ⟨w.heap.size + 1, 0, none⟩) (by simp; try omega) _).setCell (p := ⟨w.heap.size + 1, 1, none⟩) (by simp; try omega) _).setCell (p := ⟨w.heap.size + 1, 2, none⟩) (by simp; try omega) _
end Go.Proofs.Ytggkoihlmijacaa
