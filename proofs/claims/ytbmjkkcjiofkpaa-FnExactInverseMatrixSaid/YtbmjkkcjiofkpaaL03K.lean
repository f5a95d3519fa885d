/- The model's InverseMatrix. -/
import Derived.Test.YtbmjkkcjiofkpaaL03J
import Derived.Test.YtbmjkkcjiofkpaaL03D
namespace Go.Proofs.Ytbmjkkcjiofkpaa
open Go.RowKit
set_option linter.unusedVariables false
set_option linter.unusedSimpArgs false

def Num.invTo (E : List (List Int)) (C j : Nat) : List (List Int) := (E.take j).map (List.drop C)
theorem Num.invTo_step {E : List (List Int)} {C j : Nat} (h : j < E.length) : Num.invTo E C (j + 1) = Num.invTo E C j ++ [(E.getD j []).drop C] := by
  unfold Num.invTo
  rw [Num.take_snoc _ [] h, List.map_append]
  rfl
theorem Num.invTo_len {E : List (List Int)} {C j : Nat} : (Num.invTo E C j).length ≤ j := by
  unfold Num.invTo
  rw [List.length_map, List.length_take]; omega
def InvPost (p : Int) (rows : List (List Int)) (w : World) (e : Ending) (w' : World) : Prop :=
  ((∀ i, i < (Num.wideE p rows).length → Num.lead ((Num.wideE p rows).getD i []) = i) ∧ ∃ u S, e = .returned (.tuple #[u, .bool true]) ∧ spII.own w' S u (Num.invR p rows rows.length) ∧ (∀ k, S k → w.heap.size ≤ k) ∧ Below w.heap.size w w') ∨
  (¬ (∀ i, i < (Num.wideE p rows).length → Num.lead ((Num.wideE p rows).getD i []) = i) ∧ e = .returned (.tuple #[.slice none 0 0, .bool false]) ∧ Below w.heap.size w w')
set_option maxRecDepth 100000 in
set_option maxHeartbeats 2000000 in
theorem sInverse_any (p : Int) (rv : Value) (rows : List (List Int)) (w : World) (hr : spII.rd w rv rows) (hgp : Num.gp p = true) (hrv : ∀ i, i < rows.length → Num.Vec p rows.length (rows.getD i [])) (hrl : rows.length ≤ 100) :
    Calls Try.prog 53 #[.int .i64 p, rv] w (InvPost p rows w) := by
  obtain ⟨i0, hi, hz0, hz1, hz2⟩ := info_parts infoII
  have hr0 := hr
  have E := Num.wide_ech hgp hrv
  have hel := Num.wide_len hgp hrv
  have HWD0 := (sWide_any p _ rows rows.length w hr hgp hrv (by omega) hrl)
  have HNR : Hid (Num.invTo (Num.wideE p rows) rows.length (Num.wideE p rows).length = Num.invR p rows rows.length) := Lib.hid (by
    unfold Num.invTo Num.invR
    rw [List.take_length])
  obtain ⟨A9, c9, rfl, -, -⟩ := hr0
  have HWD := Lib.hid HWD0
  clear HWD0
  have HVEC := Lib.hid E.vec
  have HLT := Lib.hid E.lt
  have hel1 : (Num.wideE p rows).length ≤ rows.length := Nat.le_of_eq hel
  have hel2 : rows.length ≤ (Num.wideE p rows).length := Nat.le_of_eq hel.symm
  clear hr hgp hrv E hel
  unfold InvPost
  generalize Num.wideE p rows = e at *
  have HIR := HNR
  generalize Num.invR p rows rows.length = IR at *
  generalize hCR : rows.length = C at *
  clear hCR
  go_enter Try.func53, Try.ntmps53
  go_wp2_with (fail)
  refine HWD.out.mono ?_; rintro e' w1 ⟨u1, S1, rfl, ow1, hS1, hb1⟩
  obtain ⟨Ae, ce, rfl, -, -⟩ := spII.own_rd ow1
  have HO1 := Lib.hid ow1
  clear ow1 hS1 HWD
  go_wp2_with (fail)
  go_loopw [7, 8] (fun s6 s7 wr => ∃ (j : Nat) (S : Nat → Prop), s7 = .int .i64 j ∧ j ≤ e.length ∧ Hid (∀ i, i < j → Num.lead (e.getD i []) = i) ∧ Hid (spII.own wr S s6 (Num.invTo e C j)) ∧ Hid (∀ k, S k → w1.heap.size ≤ k) ∧ Below w1.heap.size w1 wr) (fun _ s7 _ => e.length - (intOf s7).toNat)
  case atStart => exact ⟨0, _, rfl, by omega, Lib.hid (fun i hi => by omega), Lib.hid (by rw [show Num.invTo e C 0 = [] by simp [Num.invTo]]; exact spL_empty _ _ _ _), Lib.hid (fun k hk => by omega), by go_grown⟩
  case round =>
    obtain ⟨j, S, rfl, hj, HLJ, HO, hS, bel⟩ := hrel
    by_cases hlt : j < e.length
    · have j0 : (0 : Int) ≤ (j : Int) := by omega
      have j1 : (j : Int) < (e.length : Int) := by omega
      obtain ⟨g, cg, u, T, e1, -, hgl, hc, -, hu, -, -⟩ := spL_own_at (spII.own_below HO1.out bel) hlt
      simp only [Value.slice.injEq] at e1
      obtain ⟨rfl, -, rfl⟩ := e1
      have V := HVEC.out j hlt
      have vl := V.len
      have hltl := HLT.out j hlt
      obtain ⟨gu, cu, rfl, hcap, hcm, hgu, hcell⟩ := spI_own_cap hu (by omega)
      have HL := Lib.hid (sLead_any _ (e.getD j []) wr (spI.own_rd hu) (by omega))
      have hlb : (Num.lead (e.getD j []) : Int) ≤ 1000 := by omega
      unfold maxLen at hcm
      by_cases hlc : Num.lead (e.getD j []) = j
      · have ET := Lib.hid (Num.invTo_step (C := C) hlt)
        have HLJ2 : Hid (∀ i, i < j + 1 → Num.lead (e.getD i []) = i) := Lib.hid fun i hi => by
          by_cases e1 : i = j
          · rw [e1]; exact hlc
          · exact HLJ.out i (by omega)
        rw [hlc] at HL hlb
        have hrd := spI_rd_drop (d := cu - C) rfl hcell hgu (by omega : C ≤ (e.getD j []).length) (by unfold maxLen; omega)
        have hdl : ((e.getD j []).drop C).length ≤ 1000 := by rw [List.length_drop]; omega
        have HOW := Lib.hid (sOwn_any _ ((e.getD j []).drop C) wr hrd (by omega))
        have cc0 : (0 : Int) ≤ (C : Int) := by omega
        have cc1 : (C : Int) ≤ ((e.getD j []).length : Int) := by omega
        have cc2 : C ≤ (e.getD j []).length := by omega
        have cc3 : ¬ (cu = C) := by omega
        have hnl := Num.invTo_len (E := e) (C := C) (j := j)
        obtain ⟨A', c', e9, -⟩ := spII.own_rd HO.out
        subst e9
        clear V vl hltl hu hcell hrd hlc hcap
        generalize (e.getD j []).drop C = x at *
        generalize Num.lead (e.getD j []) = ld at *
        generalize (e.getD j []).length = ln at *
        go_wp2_with (fail)
        refine HL.out.mono ?_; rintro e' w2 ⟨rfl, rfl⟩
        go_wp2_with (fail)
        refine HOW.out.mono ?_; rintro e' w2 ⟨u2, S2, rfl, ow2, hS2, hb2⟩
        obtain ⟨U, cU, rfl, -, -⟩ := spI_form (spI.own_rd ow2)
        have o2 := spII.own_below HO.out hb2
        obtain ⟨vs3, hvs, hpush⟩ := spL_push o2 ow2 (fun k h1 h2 => by have := spII.own_lt HO.out h1; have := hS2 k h2; omega)
        have HVS := Lib.hid (hvs.alloc (.cells #[.slice U x.length cU] 45))
        have HP := Lib.hid hpush
        have HB := Lib.hid (fun k (hk : (Value.slice A' (Num.invTo e C j).length c').ownBlock = some k) => hS.out k (by obtain ⟨_, _, _, _, _, _, h5, _⟩ := HO.out; exact h5 k hk))
        clear hvs hpush o2
        go_wp2_with (first | (at_builtin; refine wpList_append_lies _ rfl _ _ 24 rfl 0 45 i0 (.slice none 0 0) 1 24 Try.underlying24 hi hz0 hz1 hz2 rfl (by decide) (.slice A' (Num.invTo e C j).length c') (Num.invTo e C j).length vs3 rfl HVS.out ⟨_, 0, none⟩ 1 1 [.slice U x.length cU] rfl rfl (by first | exact cell_one_new _ _ _ | (have hcn := cell_one_new w2 (.slice U x.length cU) 45; rw [World.size_setCell] at hcn; exact hcn)) (by simp [Value.oneCell']) (by decide) (by unfold maxLen; omega) (by omega) (Nat.zero_le _) _ rfl ?_; intro g3 cap3 w3 own3 gr3 at3 lt3))
        have hzp : wr.heap.size ≤ w2.heap.size := hb2.size
        have hzw := bel.size
        have OW3 := Lib.hid (HP.out _ _ _ g3 ((Below.refl _ _).alloc (Nat.le_refl _) _) own3 gr3 rfl (by rcases at3 with h' | h'; exact .inl h'; exact .inr (by simp at h' ⊢; omega)) lt3)
        have HS3 : Hid (∀ k, (S k ∨ S2 k ∨ k = g3) → w1.heap.size ≤ k) := Lib.hid (fun k hk => by
          rcases hk with hk | hk | hk
          · exact hS.out _ hk
          · have := hS2 _ hk; omega
          · rcases at3 with h' | h'
            · rw [hk]; exact HB.out _ h'
            · have hzp' := hzp; simp at h' hzp'; omega)
        have bel3 : Below w1.heap.size w1 w3 := ((bel.trans (hb2.mono hzw)).alloc (by omega) _).grown gr3 (by have hzp' := hzp; simp at hzp' ⊢; omega) HB.out
        clear own3 gr3 at3 lt3 HVS HP
        have HE3 : Hid (spII.own w3 (fun q => S q ∨ S2 q ∨ q = g3) (.slice (some ⟨g3, 0, none⟩) ((Num.invTo e C j).length + 1) cap3) (Num.invTo e C (j + 1))) := Lib.hid (by rw [ET.out]; exact OW3.out)
        clear hb2 hS2 ow2 OW3
        go_wp2_with (fail)
        exact ⟨⟨j + 1, _, by go_num, by omega, HLJ2, HE3, HS3, bel3⟩, by simp [intOf]; omega⟩
      · have hlc' : ¬ ((Num.lead (e.getD j []) : Int) = (j : Int)) := by omega
        have HNO : Hid (¬ ∀ i, i < e.length → Num.lead (e.getD i []) = i) := Lib.hid fun h => hlc (h j hlt)
        clear V vl hltl hu hcell hlc hcap
        generalize Num.lead (e.getD j []) = ld at *
        generalize (e.getD j []).length = ln at *
        go_wp2_with (fail)
        refine HL.out.mono ?_; rintro e' w2 ⟨rfl, rfl⟩
        go_wp2_with (fail)
        refine bodyPost_ret (v := .tuple #[.slice none 0 0, .bool false]) (by simp [results, Try.results53, go_sem]) rfl ?_
        exact .inr ⟨HNO.out, rfl, bstep hb1 hb1.size bel⟩
    · obtain rfl : j = e.length := by omega
      have hge : ¬ ((e.length : Int) < (e.length : Int)) := by omega
      rw [HNR.out] at HO
      go_wp2_with (fail)
      obtain ⟨A7, c7, e7, -⟩ := spII.own_rd HO.out
      subst e7
      refine bodyPost_ret (v := .tuple #[.slice A7 IR.length c7, .bool true]) (by simp [results, Try.results53, go_sem]) rfl ?_
      exact .inl ⟨HLJ.out, _, rfl, S, HO.out, (fun k hk => by have := hS.out k hk; have := hb1.size; omega), (bstep hb1 hb1.size bel)⟩
set_option maxRecDepth 100000 in
set_option maxHeartbeats 1000000 in
theorem sSquare_any (v0 : Value) (x0 : Mat) (w : World) (h0 : spMat.rd w v0 x0) : Calls Try.prog 52 #[v0] w fun e w' => e = .returned (.bool (decide ((x0.R.length : Int) = x0.C))) ∧ Below w.heap.size w w' := by
  obtain ⟨A0, n0, c0, rfl, r0⟩ := spMat_form h0
  obtain ⟨rfl, -, -, -⟩ := rdII_of r0
  have b0 : Below w.heap.size w (w.alloc (.cells [.int .i64 x0.P, .int .i64 x0.C, .slice A0 x0.R.length c0].toArray 26)) := by go_grown
  obtain ⟨bl1, a0, a1, a2⟩ := (Blk.new w [.int .i64 x0.P, .int .i64 x0.C, .slice A0 x0.R.length c0] 26).c3
  clear h0 r0
  go_enter Try.func52, Try.ntmps52
  go_wp2_with (fail)
  go_ret
  exact ⟨rfl, b0⟩
theorem sSquare_yes (v0 : Value) (x0 : Mat) (w : World) (h0 : spMat.rd w v0 x0) (h : (x0.R.length : Int) = x0.C) : Calls Try.prog 52 #[v0] w (RetB true w) := by
  have := sSquare_any v0 x0 w h0; rwa [decide_eq_true h] at this
theorem sSquare_no (v0 : Value) (x0 : Mat) (w : World) (h0 : spMat.rd w v0 x0) (h : ¬ (x0.R.length : Int) = x0.C) : Calls Try.prog 52 #[v0] w (RetB false w) := by
  have := sSquare_any v0 x0 w h0; rwa [decide_eq_false h] at this
set_option maxRecDepth 100000 in
set_option maxHeartbeats 2000000 in
theorem sInverseMatrix_ok (v0 : Value) (x0 : Mat) (w : World) (h0 : spMat.rd w v0 x0) (s0 : spMat.sz x0 ≤ 1048576) : Calls Try.prog 17 #[v0] w (MadeC spMat (rInverseMatrix x0) (cInverseMatrix x0) w) := by
  obtain ⟨A0, n0, c0, rfl, r0⟩ := spMat_form h0
  obtain ⟨rfl, -, -, -⟩ := rdII_of r0
  have b0 : Below w.heap.size w ((w.alloc (.cells [.int .i64 x0.P, .int .i64 x0.C, .slice A0 x0.R.length c0].toArray 26)).alloc (.cells [.int .i64 0, .int .i64 0, .slice none 0 0].toArray 26)) := by go_grown
  have Ba : Blk ((w.alloc (.cells [.int .i64 x0.P, .int .i64 x0.C, .slice A0 x0.R.length c0].toArray 26)).alloc (.cells [.int .i64 0, .int .i64 0, .slice none 0 0].toArray 26)) w.heap.size [.int .i64 x0.P, .int .i64 x0.C, .slice A0 x0.R.length c0] 26 := (Blk.new w [.int .i64 x0.P, .int .i64 x0.C, .slice A0 x0.R.length c0] 26).alloc _
  have Br : Blk ((w.alloc (.cells [.int .i64 x0.P, .int .i64 x0.C, .slice A0 x0.R.length c0].toArray 26)).alloc (.cells [.int .i64 0, .int .i64 0, .slice none 0 0].toArray 26)) (w.heap.size + 1) [.int .i64 0, .int .i64 0, .slice none 0 0] 26 := by have := Blk.new (w.alloc (.cells [.int .i64 x0.P, .int .i64 x0.C, .slice A0 x0.R.length c0].toArray 26)) [.int .i64 0, .int .i64 0, .slice none 0 0] 26; rwa [World.size_alloc] at this
  have K0 := Lib.hid (spMat.rd_below h0 b0)
  have R0 := Lib.hid (spII.rd_below r0 b0)
  clear h0 r0
  cases hk0 : x0.ok with
  | false =>
    have HEC : Hid (cInverseMatrix x0 = 1) := Lib.hid (by unfold cInverseMatrix Mat.sq; simp [hk0])
    have HER : Hid (rInverseMatrix x0 = noMat) := Lib.hid (by unfold rInverseMatrix; rw [HEC.out]; rfl)
    have HC := Lib.hid (sIsMat_no _ x0 _ K0.out hk0)
    go_enter Try.func17, Try.ntmps17
    go_wp2_with (fail)
    refine HC.out.mono ?_; rintro e w1 ⟨rfl, hb1⟩
    have L1 := bstep b0 b0.size hb1
    have Br1 := Br.below hb1
    clear hb1 Ba Br
    obtain ⟨blr, q0, q1, q2⟩ := Br1.c3
    obtain ⟨f0, f1, f2⟩ := Br1.f3
    go_wp2_with (fail)
    refine bodyPost_ret (v := .tuple #[.agg #[.int .i64 0, .int .i64 0, .slice none 0 0], .int .i64 1]) (by simp [results, Try.results17, go_sem, blr, q0, q1, q2]) rfl ?_
    rw [HER.out, HEC.out]
    exact MadeC.none rfl (((L1.setCell (p := ⟨w.heap.size + 1, 0, none⟩) (by simp; try omega) _).setCell (p := ⟨w.heap.size + 1, 1, none⟩) (by simp; try omega) _).setCell (p := ⟨w.heap.size + 1, 2, none⟩) (by simp; try omega) _)
  | true =>
    have HC := Lib.hid (sIsMat_yes _ x0 _ K0.out hk0)
    have HK0 := Lib.hid hk0
    clear hk0
    go_enter Try.func17, Try.ntmps17
    go_wp2_with (fail)
    refine HC.out.mono ?_; rintro e w1 ⟨rfl, hb1⟩
    have L1 := bstep b0 b0.size hb1
    have Br1 := Br.below hb1
    have Ba1 := Ba.below hb1
    replace K0 := Lib.hid (spMat.rd_below K0.out hb1)
    replace R0 := Lib.hid (spII.rd_below R0.out hb1)
    clear hb1 Ba Br b0 HC
    obtain ⟨bl1, a0, a1, a2⟩ := Ba1.c3
    obtain ⟨hgp, hp1, hp2, hC0, hC1, hR8, hV0⟩ := Mat.ok_out HK0.out
    by_cases hsq : (x0.R.length : Int) = x0.C
    · have HS0 := Lib.hid (Mat.sq_ok HK0.out hsq)
      have HQ := Lib.hid hsq
      have HSQ := Lib.hid (sSquare_yes _ x0 _ K0.out hsq)
      clear hsq
      go_wp2_with (fail)
      refine HSQ.out.mono ?_; rintro e w2 ⟨rfl, hb2⟩
      have L2 := bstep L1 L1.size hb2
      have Br2 := Br1.below hb2
      have Ba2 := Ba1.below hb2
      replace K0 := Lib.hid (spMat.rd_below K0.out hb2)
      replace R0 := Lib.hid (spII.rd_below R0.out hb2)
      clear hb2 Ba1 Br1 L1 bl1 a0 a1 a2 HSQ
      obtain ⟨bl2, a0, a1, a2⟩ := Ba2.c3
      have E := Num.wide_ech hgp hV0
      have wl := Num.wide_len hgp hV0
      have sq1 : x0.R.length = x0.C.toNat := by have := HQ.out; omega
      have HV1 : Hid (∀ i, i < x0.R.length → Num.Vec x0.P x0.R.length (x0.R.getD i [])) := Lib.hid (by rw [sq1] at hV0 ⊢; exact hV0)
      have HINV := Lib.hid (sInverse_any x0.P _ x0.R w2 R0.out hgp HV1.out (by omega))
      have HLN : Hid (∀ i, i < (Num.invR x0.P x0.R x0.C.toNat).length → ((Num.invR x0.P x0.R x0.C.toNat).getD i []).length = x0.R.length) := Lib.hid (invR_len hgp hV0)
      have il : (Num.invR x0.P x0.R x0.C.toNat).length = x0.R.length := by unfold Num.invR; rw [List.length_map, wl]
      have HCB : Hid (spMat.cnt ⟨x0.P, x0.C, Num.invR x0.P x0.R x0.C.toNat⟩ ≤ 1000000000) := Lib.hid (cnt_bd HLN.out (by omega) (by omega))
      have HSZ : Hid (spII.sz (Num.invR x0.P x0.R x0.C.toNat) ≤ 1048576) := Lib.hid (sz_bd HLN.out (by omega) (by omega))
      have HFULL := Lib.hid (E.full (C := x0.C.toNat) (by omega))
      have HSE : Hid (x0.R.length = x0.C.toNat) := Lib.hid sq1
      have ne1 : ¬ (w.heap.size = w.heap.size + 1) := by omega
      have ne2 : ¬ (w.heap.size + 1 = w.heap.size) := by omega
      clear hV0 E wl sq1 il HV1 K0 R0 HLN
      go_wp2_with (fail)
      refine HINV.out.mono ?_; rintro e w3 (⟨hl3, u3, S3, rfl, ow3, hS3, hb3⟩ | ⟨hl3, rfl, hb3⟩)
      · have hfull : ¬ Num.place (Num.wideE x0.P x0.R) x0.C.toNat < x0.C.toNat := HFULL.out.1 hl3
        have HEC : Hid (cInverseMatrix x0 = 0) := Lib.hid (by unfold cInverseMatrix; simp [HS0.out, hfull])
        have HER : Hid (rInverseMatrix x0 = ⟨x0.P, x0.C, Num.invR x0.P x0.R x0.C.toNat⟩) := Lib.hid (by unfold rInverseMatrix; rw [HEC.out]; rfl)
        rw [HSE.out] at ow3
        have L3 := bstep L2 L2.size hb3
        have Br3 := Br2.below hb3
        have Ba3 := Ba2.below hb3
        clear hl3 hfull HFULL HINV Ba2 bl2 a0 a1 a2
        obtain ⟨bl3, a0, a1, a2⟩ := Ba3.c3
        obtain ⟨A3, c3, rfl, -, -⟩ := spII.own_rd ow3
        have HMK := Lib.hid (sMake_any x0.P x0.C _ _ w3 (spII.own_rd ow3) HSZ.out)
        clear ow3 hS3
        go_wp2_with (fail)
        refine HMK.out.mono ?_; rintro e w4 ⟨u4, S4, rfl, ⟨v4, T4, rfl, o4, sub4, -⟩, hS4, hb4⟩; obtain ⟨A4, c4, rfl, -, -⟩ := spII.own_rd o4
        obtain ⟨blr, q0, q1, q2⟩ := (Br3.below hb4).c3
        obtain ⟨f0, f1, f2⟩ := (Br3.below hb4).f3
        have LZ4 := bstep L3 L3.size hb4
        have ltz := Br2.lt
        have hq3 := hb3.size
        have hq4 := hb4.size
        have HT : Hid (∀ k, T4 k → w.heap.size ≤ k) := Lib.hid fun k h => by have := hS4 k (sub4 k h); omega
        have nT : ¬ T4 (w.heap.size + 1) := fun h => by have := hS4 _ (sub4 _ h); omega
        have HO := Lib.hid o4
        clear o4 sub4 hS4
        go_wp2_with (fail)
        refine bodyPost_ret (v := .tuple #[.agg #[.int .i64 x0.P, .int .i64 x0.C, .slice A4 (Num.invR x0.P x0.R x0.C.toNat).length c4], .int .i64 0]) (by simp [results, Try.results17, go_sem, blr, q0, q1, q2]) rfl ?_
        rw [HER.out, HEC.out]
        refine MadeC.mat (S := T4) rfl ?_ HT.out HCB.out ?_
        · exact spII.own_set (spII.own_set (spII.own_set HO.out (p := ⟨w.heap.size + 1, 0, none⟩) nT _) (p := ⟨w.heap.size + 1, 1, none⟩) nT _) (p := ⟨w.heap.size + 1, 2, none⟩) nT _
        · exact ((LZ4.setCell (p := ⟨w.heap.size + 1, 0, none⟩) (by simp; try omega) _).setCell (p := ⟨w.heap.size + 1, 1, none⟩) (by simp; try omega) _).setCell (p := ⟨w.heap.size + 1, 2, none⟩) (by simp; try omega) _
      · have hfull : Num.place (Num.wideE x0.P x0.R) x0.C.toNat < x0.C.toNat := Decidable.byContradiction fun h => hl3 (HFULL.out.2 h)
        have HEC : Hid (cInverseMatrix x0 = 4) := Lib.hid (by unfold cInverseMatrix; simp [HS0.out, hfull])
        have HER : Hid (rInverseMatrix x0 = noMat) := Lib.hid (by unfold rInverseMatrix; rw [HEC.out]; rfl)
        have L3 := bstep L2 L2.size hb3
        have Br3 := Br2.below hb3
        clear hl3 hfull HFULL HINV hb3 Ba2
        obtain ⟨blr, q0, q1, q2⟩ := Br3.c3
        obtain ⟨f0, f1, f2⟩ := Br3.f3
        go_wp2_with (fail)
        refine bodyPost_ret (v := .tuple #[.agg #[.int .i64 0, .int .i64 0, .slice none 0 0], .int .i64 4]) (by simp [results, Try.results17, go_sem, blr, q0, q1, q2]) rfl ?_
        rw [HER.out, HEC.out]
        exact MadeC.none rfl (((L3.setCell (p := ⟨w.heap.size + 1, 0, none⟩) (by simp; try omega) _).setCell (p := ⟨w.heap.size + 1, 1, none⟩) (by simp; try omega) _).setCell (p := ⟨w.heap.size + 1, 2, none⟩) (by simp; try omega) _)
    · have HS0 := Lib.hid (Mat.sq_two HK0.out hsq)
      have HEC : Hid (cInverseMatrix x0 = 2) := Lib.hid (by unfold cInverseMatrix; simp [HS0.out])
      have HER : Hid (rInverseMatrix x0 = noMat) := Lib.hid (by unfold rInverseMatrix; rw [HEC.out]; rfl)
      have HSQ := Lib.hid (sSquare_no _ x0 _ K0.out hsq)
      clear hV0
      go_wp2_with (fail)
      refine HSQ.out.mono ?_; rintro e w2 ⟨rfl, hb2⟩
      have L2 := bstep L1 L1.size hb2
      have Br2 := Br1.below hb2
      have Ba2 := Ba1.below hb2
      replace K0 := Lib.hid (spMat.rd_below K0.out hb2)
      replace R0 := Lib.hid (spII.rd_below R0.out hb2)
      clear hb2 Ba1 Br1 L1 bl1 a0 a1 a2 HSQ
      obtain ⟨bl2, a0, a1, a2⟩ := Ba2.c3
      obtain ⟨blr, q0, q1, q2⟩ := Br2.c3
      obtain ⟨f0, f1, f2⟩ := Br2.f3
      go_wp2_with (fail)
      refine bodyPost_ret (v := .tuple #[.agg #[.int .i64 0, .int .i64 0, .slice none 0 0], .int .i64 2]) (by simp [results, Try.results17, go_sem, blr, q0, q1, q2]) rfl ?_
      rw [HER.out, HEC.out]
      exact MadeC.none rfl (((L2.setCell (p := ⟨w.heap.size + 1, 0, none⟩) (by simp; try omega) _).setCell (p := ⟨w.heap.size + 1, 1, none⟩) (by simp; try omega) _).setCell (p := ⟨w.heap.size + 1, 2, none⟩) (by simp; try omega) _)
end Go.Proofs.Ytbmjkkcjiofkpaa
