/- The model's TransposeMatrix. -/
import Derived.Test.YtbmjkkcjiofkpaaL02M
import Derived.Test.YtbmjkkcjiofkpaaL02L
import Derived.Test.YtbmjkkcjiofkpaaL02H
import Derived.Test.YtbmjkkcjiofkpaaNumU
namespace Go.Proofs.Ytbmjkkcjiofkpaa
open Go.RowKit
set_option linter.unusedVariables false
set_option linter.unusedSimpArgs false

theorem Num.transR_length (rows : List (List Int)) (C : Nat) : (Num.transR rows C).length = C := by simp [Num.transR]
theorem Num.colV_length (rows : List (List Int)) (j : Nat) : (Num.colV rows j).length = rows.length := by simp [Num.colV]
theorem Num.transR_get {rows : List (List Int)} {C j : Nat} (h : j < C) : (Num.transR rows C).getD j [] = Num.colV rows j := by
  unfold Num.transR
  rw [List.getD_eq_getElem?_getD, List.getElem?_map, List.getElem?_range h]
  rfl
theorem Num.transR_take {rows : List (List Int)} {C j : Nat} (h : j < C) : (Num.transR rows C).take (j + 1) = (Num.transR rows C).take j ++ [Num.colV rows j] := by
  rw [Num.take_snoc _ [] (by rw [Num.transR_length]; exact h), Num.transR_get h]
theorem Num.colV_take {rows : List (List Int)} {i j : Nat} (h : i < rows.length) : (Num.colV rows j).take (i + 1) = (Num.colV rows j).take i ++ [(rows.getD i []).getD j 0] := by
  rw [Num.take_snoc _ 0 (by rw [Num.colV_length]; exact h)]
  congr 2
  unfold Num.colV
  rw [List.getD_eq_getElem?_getD, List.getElem?_map, List.getElem?_eq_getElem h]
  simp [List.getD_eq_getElem?_getD, h]
theorem Num.transR_len {rows : List (List Int)} {C : Nat} : ∀ i, i < (Num.transR rows C).length → ((Num.transR rows C).getD i []).length = rows.length := fun i hi => by
  rw [Num.transR_get (by rw [Num.transR_length] at hi; exact hi), Num.colV_length]
set_option maxRecDepth 100000 in
set_option maxHeartbeats 2000000 in
theorem sTransposeMatrix_ok (v0 : Value) (x0 : Mat) (w : World) (h0 : spMat.rd w v0 x0) (s0 : spMat.sz x0 ≤ 1048576) : Calls Try.prog 34 #[v0] w (MadeC spMat (rTransposeMatrix x0) (cTransposeMatrix x0) w) := by
  obtain ⟨i0', hi', hz0', hz1', hz2'⟩ := info_parts infoI
  obtain ⟨i0, hi, hz0, hz1, hz2⟩ := info_parts infoII
  obtain ⟨A0, n0, c0, rfl, r0⟩ := spMat_form h0
  obtain ⟨rfl, -, -, -⟩ := rdII_of r0
  have b0 : Below w.heap.size w ((w.alloc (.cells [.int .i64 x0.P, .int .i64 x0.C, .slice A0 x0.R.length c0].toArray 26)).alloc (.cells [.int .i64 0, .int .i64 0, .slice none 0 0].toArray 26)) := by go_grown
  have Ba : Blk ((w.alloc (.cells [.int .i64 x0.P, .int .i64 x0.C, .slice A0 x0.R.length c0].toArray 26)).alloc (.cells [.int .i64 0, .int .i64 0, .slice none 0 0].toArray 26)) w.heap.size [.int .i64 x0.P, .int .i64 x0.C, .slice A0 x0.R.length c0] 26 := (Blk.new w [.int .i64 x0.P, .int .i64 x0.C, .slice A0 x0.R.length c0] 26).alloc _
  have Br : Blk ((w.alloc (.cells [.int .i64 x0.P, .int .i64 x0.C, .slice A0 x0.R.length c0].toArray 26)).alloc (.cells [.int .i64 0, .int .i64 0, .slice none 0 0].toArray 26)) (w.heap.size + 1) [.int .i64 0, .int .i64 0, .slice none 0 0] 26 := by have := Blk.new (w.alloc (.cells [.int .i64 x0.P, .int .i64 x0.C, .slice A0 x0.R.length c0].toArray 26)) [.int .i64 0, .int .i64 0, .slice none 0 0] 26; rwa [World.size_alloc] at this
  have K0 := Lib.hid (spMat.rd_below h0 b0)
  have R0 := Lib.hid (spII.rd_below r0 b0)
  clear h0 r0
  cases hk0 : x0.ok with
  | false =>
    have HEC : Hid (cTransposeMatrix x0 = 1) := Lib.hid (by unfold cTransposeMatrix; simp [hk0])
    have HER : Hid (rTransposeMatrix x0 = noMat) := Lib.hid (by unfold rTransposeMatrix; simp [hk0])
    have HC := Lib.hid (sIsMat_no _ x0 _ K0.out hk0)
    go_enter Try.func34, Try.ntmps34
    go_wp2_with (fail)
    refine HC.out.mono ?_; rintro e w1 ⟨rfl, hb1⟩
    have L1 := bstep b0 b0.size hb1
    have Br1 := Br.below hb1
    clear hb1 Ba Br
    obtain ⟨blr, q0, q1, q2⟩ := Br1.c3
    obtain ⟨f0, f1, f2⟩ := Br1.f3
    go_wp2_with (fail)
    refine bodyPost_ret (v := .tuple #[.agg #[.int .i64 0, .int .i64 0, .slice none 0 0], .int .i64 1]) (by simp [results, Try.results34, go_sem, blr, q0, q1, q2]) rfl ?_
    rw [HER.out, HEC.out]
    exact MadeC.none rfl (((L1.setCell (p := ⟨w.heap.size + 1, 0, none⟩) (by simp; try omega) _).setCell (p := ⟨w.heap.size + 1, 1, none⟩) (by simp; try omega) _).setCell (p := ⟨w.heap.size + 1, 2, none⟩) (by simp; try omega) _)
  | true =>
    have HC := Lib.hid (sIsMat_yes _ x0 _ K0.out hk0)
    have HK0 := Lib.hid hk0
    clear hk0
    go_enter Try.func34, Try.ntmps34
    go_wp2_with (fail)
    refine HC.out.mono ?_; rintro e w1 ⟨rfl, hb1⟩
    have L1 := bstep b0 b0.size hb1
    have Br1 := Br.below hb1
    have Ba1 := Ba.below hb1
    replace K0 := Lib.hid (spMat.rd_below K0.out hb1)
    replace R0 := Lib.hid (spII.rd_below R0.out hb1)
    clear hb1 Ba Br b0 HC
    obtain ⟨bl1, a0, a1, a2⟩ := Ba1.c3
    obtain ⟨hgp, hp1, hp2, hC0, hC1, hR8, hV0⟩ := Mat.ok_out HK0.out
    have HEC : Hid (cTransposeMatrix x0 = 0) := Lib.hid (by unfold cTransposeMatrix; simp [HK0.out])
    have HER : Hid (rTransposeMatrix x0 = ⟨x0.P, (x0.R.length : Int), Num.transR x0.R x0.C.toNat⟩) := Lib.hid (by unfold rTransposeMatrix; simp [HK0.out])
    have HCB : Hid (spMat.cnt ⟨x0.P, (x0.R.length : Int), Num.transR x0.R x0.C.toNat⟩ ≤ 1000000000) := Lib.hid (cnt_bd Num.transR_len (by rw [Num.transR_length]; omega) (by omega))
    have HSZ : Hid (spII.sz (Num.transR x0.R x0.C.toNat) ≤ 1048576) := Lib.hid (sz_bd Num.transR_len (by rw [Num.transR_length]; omega) (by omega))
    have HRV : Hid (∀ i, i < x0.R.length → (x0.R.getD i []).length = x0.C.toNat) := Lib.hid fun i hi => (hV0 i hi).len
    have ne1 : ¬ (w.heap.size = w.heap.size + 1) := by omega
    have ne2 : ¬ (w.heap.size + 1 = w.heap.size) := by omega
    clear hV0 K0 a0 a1 a2 bl1
    go_wp2_with (fail)
    go_loopw [4, 5] (fun s4 s5 wr => ∃ (j : Nat) (S : Nat → Prop), s5 = .int .i64 j ∧ j ≤ x0.C.toNat ∧ Hid (spII.own wr S s4 ((Num.transR x0.R x0.C.toNat).take j)) ∧ Hid (∀ k, S k → w1.heap.size ≤ k) ∧ Below w1.heap.size w1 wr) (fun _ s5 _ => x0.C.toNat - (intOf s5).toNat)
    case atStart => exact ⟨0, _, rfl, by omega, Lib.hid (spL_empty _ _ _ _), Lib.hid (fun k hk => by omega), by go_grown⟩
    case round =>
      obtain ⟨j, S, rfl, hj, HO, hS, bel⟩ := hrel
      generalize wr = W0 at *
      have hlj : ((Num.transR x0.R x0.C.toNat).take j).length = j := by rw [List.length_take, Num.transR_length]; omega
      have Ba3 := Ba1.below bel
      obtain ⟨bl3, d0, d1, d2⟩ := Ba3.c3
      by_cases hlt : j < x0.C.toNat
      · have j0 : (0 : Int) ≤ (j : Int) := by omega
        have j1 : (j : Int) < x0.C := by omega
        have ET := Lib.hid (Num.transR_take (rows := x0.R) hlt)
        obtain ⟨A', c', e', -⟩ := spII.own_rd HO.out
        rw [hlj] at e'
        subst e'
        have HLJ := Lib.hid hlj
        clear hlj
        go_wp2_with (fail)
        go_loopw [6, 7] (fun s6 s7 w2 => ∃ i : Nat, s7 = .int .i64 i ∧ i ≤ x0.R.length ∧ Hid (OwnI w2 W0.heap.size s6 ((Num.colV x0.R j).take i)) ∧ Below W0.heap.size W0 w2) (fun _ s7 _ => x0.R.length - (intOf s7).toNat)
        case atStart => exact ⟨0, rfl, by omega, Lib.hid (by simpa using OwnI.lit W0 [] (Nat.le_refl _) (by simp)), by go_grown⟩
        case round =>
          obtain ⟨i, rfl, hii, HOW, bw⟩ := hrel
          clear d0 d1 d2 bl3
          obtain ⟨bl4, a0, a1, a2⟩ := (Ba3.below bw).c3
          by_cases hlti : i < x0.R.length
          · obtain ⟨gz, oz, uz, rfl, hg, hc, hru⟩ := spL_row (spII.rd_below (spII.rd_below R0.out bel) bw) hlti
            obtain ⟨C, cC, rfl, -, -⟩ := spI_form hru
            have hrl := HRV.out i hlti
            obtain ⟨gr, or, rfl, hgr, hcr⟩ := spI_at hru (j := j) (by omega)
            have i0'' : (0 : Int) ≤ (i : Int) := by omega
            have i1 : (i : Int) < (x0.R.length : Int) := by omega
            have jl : (j : Int) < ((x0.R.getD i []).length : Int) := by omega
            have EC := Lib.hid (Num.colV_take (j := j) hlti)
            have xl : ((Num.colV x0.R j).take i).length ≤ 8 := by rw [List.length_take]; omega
            clear hru hrl
            generalize (Num.colV x0.R j).take i = X at *
            generalize (x0.R.getD i []).getD j 0 = y at *
            generalize (x0.R.getD i []).length = ln at *
            have HB := Lib.hid HOW.out.base_le
            have bws := bw.size
            go_wp2_with (first | (at_builtin; refine wpList_append_own_at _ rfl (.tmp 27) (.tmp 36) 45 rfl W0.heap.size 2 i0' (.int .i64 0) 1 8 Try.underlying45 hi' hz0' hz1' hz2' rfl (by decide) _ _ _ rfl (HOW.out.alloc _) ⟨_, 0, none⟩ 1 1 [.int .i64 y] rfl rfl (cell_one_new _ _ _) (by simp [Value.oneCell']) (by unfold maxLen; omega) (by omega) (by simp; omega) ?_; intro v3 w3 own3 gr3 _ at3))
            exact ⟨⟨i + 1, by go_num, by omega, Lib.hid (by rw [EC.out]; exact OwnI.snoc own3), (bw.alloc (by omega) _).grown gr3 (by simp; omega) HB.out⟩, by simp [intOf]; omega⟩
          · obtain rfl : i = x0.R.length := by omega
            have hge : ¬ ((x0.R.length : Int) < (x0.R.length : Int)) := by omega
            have HE : Hid ((Num.colV x0.R j).take x0.R.length = Num.colV x0.R j) := Lib.hid (List.take_of_length_le (by rw [Num.colV_length]; omega))
            rw [HE.out] at HOW
            obtain ⟨U, cU, rfl⟩ := HOW.out.form
            obtain ⟨S2, hS2, ow2⟩ : ∃ S2 : Nat → Prop, (∀ k, S2 k → W0.heap.size ≤ k) ∧ spI.own wr S2 (.slice U (Num.colV x0.R j).length cU) (Num.colV x0.R j) := ⟨_, fun k hk => HOW.out.base_le k hk, spI_of HOW.out⟩
            clear HE HOW
            generalize Num.colV x0.R j = col at *
            have o2 := spII.own_below HO.out bw
            obtain ⟨vs3, hvs, hpush⟩ := spL_push o2 ow2 (fun k h1 h2 => by have := spII.own_lt HO.out h1; have := hS2 k h2; omega)
            rw [HLJ.out] at hvs hpush
            have HVS := Lib.hid (hvs.alloc (.cells #[.slice U col.length cU] 45))
            have HP := Lib.hid hpush
            have HB := Lib.hid (fun k (hk : (Value.slice A' j c').ownBlock = some k) => hS.out k (by obtain ⟨_, _, _, _, _, _, h5, _⟩ := HO.out; exact h5 k hk))
            clear hvs hpush o2
            go_wp2_with (first | (at_builtin; refine wpList_append_lies _ rfl _ _ 24 rfl 0 45 i0 (.slice none 0 0) 1 24 Try.underlying24 hi hz0 hz1 hz2 rfl (by decide) (.slice A' j c') j vs3 rfl HVS.out ⟨_, 0, none⟩ 1 1 [.slice U col.length cU] rfl rfl (by first | exact cell_one_new _ _ _ | (have hcn := cell_one_new wr (.slice U col.length cU) 45; rw [World.size_setCell] at hcn; exact hcn)) (by simp [Value.oneCell']) (by decide) (by unfold maxLen; omega) (by omega) (Nat.zero_le _) _ rfl ?_; intro g3 cap3 w3 own3 gr3 at3 lt3))
            have hzp : W0.heap.size ≤ wr.heap.size := bw.size
            have hzw := bel.size
            have OW3 := Lib.hid (HP.out _ _ _ g3 ((Below.refl _ _).alloc (Nat.le_refl _) _) own3 gr3 rfl (by rcases at3 with h' | h'; exact .inl h'; exact .inr (by simp at h' ⊢; omega)) lt3)
            have HS3 : Hid (∀ k, (S k ∨ S2 k ∨ k = g3) → w1.heap.size ≤ k) := Lib.hid (fun k hk => by
              rcases hk with hk | hk | hk
              · exact hS.out _ hk
              · have := hS2 _ hk; omega
              · rcases at3 with h' | h'
                · rw [hk]; exact HB.out _ h'
                · have hzp' := hzp; simp at h' hzp'; omega)
            have bel3 : Below w1.heap.size w1 w3 := ((bel.trans (bw.mono hzw)).alloc (by omega) _).grown gr3 (by have hzp' := hzp; simp at hzp' ⊢; omega) HB.out
            clear own3 gr3 at3 lt3 HVS HP
            clear bw hS2 ow2
            go_wp2_with (fail)
            exact ⟨⟨j + 1, _, by go_num, by omega, Lib.hid (by rw [ET.out]; exact OW3.out), HS3, bel3⟩, by simp [intOf]; omega⟩
      · obtain rfl : j = x0.C.toNat := by omega
        have hge : ¬ ((x0.C.toNat : Int) < x0.C) := by omega
        have hjC : ((x0.C.toNat : Nat) : Int) = x0.C := by omega
        have HE : Hid ((Num.transR x0.R x0.C.toNat).take x0.C.toNat = Num.transR x0.R x0.C.toNat) := Lib.hid (List.take_of_length_le (by rw [Num.transR_length]; omega))
        rw [HE.out] at HO
        have HJC := Lib.hid hjC
        clear hlj hjC HE
        obtain ⟨A3, c3, rfl, -, -⟩ := spII.own_rd HO.out
        have HMK := Lib.hid (sMake_any x0.P (x0.R.length : Int) _ _ W0 (spII.own_rd HO.out) HSZ.out)
        have L3 := bstep L1 L1.size bel
        have Br3 := Br1.below bel
        have hb3 := bel
        go_wp2_with (fail)
        refine HMK.out.mono ?_; rintro e w4 ⟨u4, S4, rfl, ⟨v4, T4, rfl, o4, sub4, -⟩, hS4, hb4⟩; obtain ⟨A4, c4, rfl, -, -⟩ := spII.own_rd o4
        obtain ⟨blr, q0, q1, q2⟩ := (Br3.below hb4).c3
        obtain ⟨f0, f1, f2⟩ := (Br3.below hb4).f3
        have LZ4 := bstep L3 L3.size hb4
        have ltz := Br1.lt
        have hq3 := hb3.size
        have hq4 := hb4.size
        have HT : Hid (∀ k, T4 k → w.heap.size ≤ k) := Lib.hid fun k h => by have := hS4 k (sub4 k h); omega
        have nT : ¬ T4 (w.heap.size + 1) := fun h => by have := hS4 _ (sub4 _ h); omega
        have HO := Lib.hid o4
        clear o4 sub4 hS4
        go_wp2_with (fail)
        refine bodyPost_ret (v := .tuple #[.agg #[.int .i64 x0.P, .int .i64 (x0.R.length : Int), .slice A4 (Num.transR x0.R x0.C.toNat).length c4], .int .i64 0]) (by simp [results, Try.results34, go_sem, blr, q0, q1, q2]) rfl ?_
        rw [HER.out, HEC.out]
        refine MadeC.mat (S := T4) rfl ?_ HT.out HCB.out ?_
        · exact spII.own_set (spII.own_set (spII.own_set HO.out (p := ⟨w.heap.size + 1, 0, none⟩) nT _) (p := ⟨w.heap.size + 1, 1, none⟩) nT _) (p := ⟨w.heap.size + 1, 2, none⟩) nT _
        · exact ((LZ4.setCell (p := ⟨w.heap.size + 1, 0, none⟩) (by simp; try omega) _).setCell (p := ⟨w.heap.size + 1, 1, none⟩) (by simp; try omega) _).setCell (p := ⟨w.heap.size + 1, 2, none⟩) (by simp; try omega) _
end Go.Proofs.Ytbmjkkcjiofkpaa
