/- The program's identity matrix. -/
import Derived.Test.YtbmjkkcjiofkpaaL02Q
import Derived.Test.YtbmjkkcjiofkpaaL02D
import Derived.Test.YtbmjkkcjiofkpaaL02N
namespace Go.Proofs.Ytbmjkkcjiofkpaa
open Go.RowKit
set_option linter.unusedVariables false
set_option linter.unusedSimpArgs false

set_option maxRecDepth 100000 in
set_option maxHeartbeats 1000000 in
theorem iIdentityMatrix_ok (x0 x1 : Int) (w : World) : Calls Try.prog 22 #[.int .i64 x0, .int .i64 x1] w (MadeC spMat (rIdentityMatrix x0 x1) (cIdentityMatrix x0 x1) w) := by
  by_cases h1 : Num.gp x0 = true
  · by_cases h2 : 0 ≤ x1 ∧ x1 ≤ 8
    · obtain ⟨m, rfl⟩ : ∃ m : Nat, x1 = m := ⟨x1.toNat, by omega⟩
      have eR : rIdentityMatrix x0 m = ⟨x0, m, Num.unitR m⟩ := by unfold rIdentityMatrix okIdent; rw [h1, decide_eq_true h2]; simp
      have eC : cIdentityMatrix x0 m = 0 := by unfold cIdentityMatrix okIdent; rw [h1, decide_eq_true h2]; simp
      rw [eR, eC]
      obtain ⟨h20, h21⟩ := h2
      obtain ⟨i0, hi, hz0, hz1, hz2⟩ := info_parts infoRow
      obtain ⟨hp1, hp2⟩ := Num.gp_le h1
      have hm8 : m ≤ 8 := by omega
      have ul := Num.unitR_length m
      have UL := Lib.hid ul
      have H1 := Lib.hid h1
      have HG : Hid (∀ i, i < m → (Num.unitR m).getD i [] = Num.unitV m i) := Lib.hid fun i hi => by
        rw [Num.getD_lt _ _ (by rw [ul]; exact hi)]
        simp [Num.unitR]
      have HL : Hid (∀ i, i < (Num.unitR m).length → ((Num.unitR m).getD i []).length = m) := Lib.hid fun i hi => by
        rw [HG.out i (by omega), Num.unitV_length]
      have HCB : Hid (spMat.cnt ⟨x0, m, Num.unitR m⟩ ≤ 1000000000) := Lib.hid (cnt_bd HL.out (by omega) (by omega))
      have b0 : Below w.heap.size w (w.alloc (.cells #[.int .i64 0, .int .i64 0, .slice none 0 0] 26)) := by go_grown
      have B0 := Blk.new w [.int .i64 0, .int .i64 0, .slice none 0 0] 26
      clear h1 eR eC ul
      go_enter Try.func22, Try.ntmps22
      go_wp2_with (first | (go_at_call 65; refine (gp_yes _ _ H1.out).mono ?_; rintro e w' ⟨rfl, rfl⟩) | (go_at_call 66; refine (isDim_yes _ _ h20 h21).mono ?_; rintro e w' ⟨rfl, rfl⟩) | (refine wpList_make_full _ rfl (.tmp 17) (.tmp 17) 56 rfl (w.heap.size + 1) 70 i0 (.slice none 0 0) 1 Try.underlying56 hi hz0 hz1 .i64 .i64 (m : Int) (m : Int) m rfl rfl rfl rfl (by rw [hz2]; omega) (by unfold maxLen; omega) (by simp) ?_; intro w1 own1 gr1; rw [World.size_alloc] at own1; have b1 : Below (w.alloc (.cells #[.int .i64 0, .int .i64 0, .slice none 0 0] 26)).heap.size (w.alloc (.cells #[.int .i64 0, .int .i64 0, .slice none 0 0] 26)) w1 := (Below.refl _ _).grown gr1 (Nat.le_refl _) (fun k hk => by simp at hk); have B1 := B0.below b1; have L1 := bstep b0 b0.size b1; clear gr1 b1 B0))
      go_loopw [21] (fun s wr => ∃ j : Nat, s = .int .i64 j ∧ j ≤ m ∧ CopyTo 70 (spR x0) [] (w.heap.size + 1) wr (.slice (some ⟨w.heap.size + 1, 0, none⟩) m m) (Num.unitR m) j ∧ Blk wr w.heap.size [.int .i64 0, .int .i64 0, .slice none 0 0] 26 ∧ Below w.heap.size w wr) (fun s _ => m - (intOf s).toNat)
      case atStart => exact ⟨0, rfl, by omega, ⟨_, fun _ _ => False, (by rw [UL.out]; exact own1), fun i hi => by omega, fun i j _ hj => by omega, fun i hi => by omega⟩, B1, L1⟩
      case round =>
        obtain ⟨j, rfl, hj, own, BX, bel⟩ := hrel
        clear own1 B1 L1
        by_cases hlt : j < m
        · have j0 : (0 : Int) ≤ (j : Int) := by omega
          have j1 : (j : Int) < (m : Int) := by omega
          have HT := Lib.hid (unitRow_any x0 m j wr (by omega) hlt (by omega) (by omega))
          have HOWN := Lib.hid own
          have hz := bel.size
          clear own
          go_wp2_with (fail)
          refine HT.out.mono ?_; rintro e w2 ⟨u2, S2, rfl, ow2, hS2, b2⟩
          obtain ⟨A2, cap2, rfl, -⟩ := spR_form ((spR x0).own_rd ow2)
          rw [← HG.out j hlt] at ow2
          obtain ⟨⟨ov, hov⟩, hfz, st1, st2, hzz⟩ := HOWN.out.step (by rw [UL.out]; exact hlt) b2 ow2 hS2
          rw [HG.out j hlt] at st1 st2
          generalize (Num.unitV m j).length = n2 at *
          have B2 := (BX.below b2).other (p := ⟨w.heap.size + 1, j, none⟩) (by simp) (.slice A2 n2 cap2)
          have bel2 := (bel.trans (b2.mono hz)).grown st2 (by have := b2.size; omega) (fun k hk => by simp at hk; omega)
          have HST := Lib.hid st1
          clear st1 st2 ow2 HOWN HT hS2 b2
          go_wp2_with (fail)
          exact ⟨⟨j + 1, by go_num, by omega, HST.out, B2, bel2⟩, by simp [intOf]; omega⟩
        · have hge : ¬ ((j : Int) < (m : Int)) := by omega
          obtain rfl : j = m := by omega
          have own' : CopyTo 70 (spR x0) [] (w.heap.size + 1) wr (.slice (some ⟨w.heap.size + 1, 0, none⟩) j j) (Num.unitR j) (Num.unitR j).length := by rw [UL.out]; exact own
          have HC := Lib.hid (matrixOf_any x0 j (.slice (some ⟨w.heap.size + 1, 0, none⟩) j j) (Num.unitR j) wr ((spRR x0).own_rd own'.done) (by rw [UL.out]; omega) (fun i hi => by rw [HL.out i hi]; omega))
          clear own own'
          go_wp2_with (fail)
          refine HC.out.mono ?_; rintro e w2 ⟨u2, S2, rfl, ⟨v2, T2, rfl, o2, sub2, -⟩, hS2, hb2⟩
          obtain ⟨A2, c2, rfl, -, -⟩ := spII.own_rd o2
          have B2 := BX.below hb2
          have L2 := bstep bel bel.size hb2
          have lt1 := BX.lt
          have HT : Hid (∀ k, T2 k → w.heap.size ≤ k) := Lib.hid fun k h => by have := hS2 k (sub2 k h); omega
          have nT : ¬ T2 w.heap.size := fun h => by have := hS2 _ (sub2 _ h); omega
          clear hb2 hS2 sub2 BX bel
          obtain ⟨bl, q0, q1, q2⟩ := B2.c3
          obtain ⟨f0, f1, f2⟩ := B2.f3
          have HO := Lib.hid o2
          clear o2
          go_wp2_with (fail)
          refine bodyPost_ret (v := .tuple #[.agg #[.int .i64 x0, .int .i64 j, .slice A2 (Num.unitR j).length c2], .int .i64 0]) (by simp [results, Try.results22, go_sem, bl, q0, q1, q2]) rfl ?_
          refine MadeC.mat (S := T2) rfl ?_ HT.out HCB.out ?_
          · exact spII.own_set (spII.own_set (spII.own_set HO.out (p := ⟨w.heap.size, 0, none⟩) nT _) (p := ⟨w.heap.size, 1, none⟩) nT _) (p := ⟨w.heap.size, 2, none⟩) nT _
          · exact ((L2.setCell (p := ⟨w.heap.size, 0, none⟩) (by simp) _).setCell (p := ⟨w.heap.size, 1, none⟩) (by simp) _).setCell (p := ⟨w.heap.size, 2, none⟩) (by simp) _
    · have eR : rIdentityMatrix x0 x1 = noMat := by unfold rIdentityMatrix okIdent; rw [decide_eq_false h2]; simp
      have eC : cIdentityMatrix x0 x1 = 2 := by unfold cIdentityMatrix okIdent; rw [decide_eq_false h2]; simp
      rw [eR, eC]
      have H1 := Lib.hid h1
      have H2 := Lib.hid h2
      clear h1 h2 eR eC
      go_enter Try.func22, Try.ntmps22
      go_wp2_with (first | (go_at_call 65; refine (gp_yes _ _ H1.out).mono ?_; rintro e w' ⟨rfl, rfl⟩) | (go_at_call 66; refine (isDim_no _ _ H2.out).mono ?_; rintro e w' ⟨rfl, rfl⟩))
      refine bodyPost_ret (v := .tuple #[.agg #[.int .i64 0, .int .i64 0, .slice none 0 0], .int .i64 2]) (by simp [results, Try.results22, go_sem]) rfl ?_
      exact MadeC.none rfl (by go_grown)
  · have h1' : Num.gp x0 = false := by simpa using h1
    have eR : rIdentityMatrix x0 x1 = noMat := by unfold rIdentityMatrix okIdent; rw [h1']; simp
    have eC : cIdentityMatrix x0 x1 = 2 := by unfold cIdentityMatrix okIdent; rw [h1']; simp
    rw [eR, eC]
    have H1 := Lib.hid h1'
    clear h1 h1' eR eC
    go_enter Try.func22, Try.ntmps22
    go_wp2_with (go_at_call 65; refine (gp_no _ _ H1.out).mono ?_; rintro e w' ⟨rfl, rfl⟩)
    refine bodyPost_ret (v := .tuple #[.agg #[.int .i64 0, .int .i64 0, .slice none 0 0], .int .i64 2]) (by simp [results, Try.results22, go_sem]) rfl ?_
    exact MadeC.none rfl (by go_grown)

end Go.Proofs.Ytbmjkkcjiofkpaa
