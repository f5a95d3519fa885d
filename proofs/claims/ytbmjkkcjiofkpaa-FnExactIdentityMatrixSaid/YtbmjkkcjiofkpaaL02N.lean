/- The model's IdentityMatrix. -/
import Derived.Test.YtbmjkkcjiofkpaaL02M
namespace Go.Proofs.Ytbmjkkcjiofkpaa
open Go.RowKit
set_option linter.unusedVariables false
set_option linter.unusedSimpArgs false

set_option maxRecDepth 100000 in
set_option maxHeartbeats 1000000 in
theorem sIdentityMatrix_ok (x0 x1 : Int) (w : World) : Calls Try.prog 31 #[.int .i64 x0, .int .i64 x1] w (MadeC spMat (rIdentityMatrix x0 x1) (cIdentityMatrix x0 x1) w) := by
  by_cases h1 : Num.gp x0 = true
  · by_cases h2 : 0 ≤ x1 ∧ x1 ≤ 8
    · obtain ⟨m, rfl⟩ : ∃ m : Nat, x1 = m := ⟨x1.toNat, by omega⟩
      have eR : rIdentityMatrix x0 m = ⟨x0, m, Num.unitR m⟩ := by unfold rIdentityMatrix okIdent; rw [h1, decide_eq_true h2]; simp
      have eC : cIdentityMatrix x0 m = 0 := by unfold cIdentityMatrix okIdent; rw [h1, decide_eq_true h2]; simp
      rw [eR, eC]
      obtain ⟨h20, h21⟩ := h2
      have hm8 : m ≤ 8 := by omega
      have H1 := Lib.hid h1
      have HL : Hid (∀ i, i < (Num.unitR m).length → ((Num.unitR m).getD i []).length = m) := Lib.hid fun i hi => by
        rw [Num.unitR_length] at hi
        rw [Num.getD_lt _ _ (by rw [Num.unitR_length]; exact hi)]
        simp [Num.unitR, Num.unitV_length]
      have HSZ : Hid (spII.sz (Num.unitR m) ≤ 1048576) := Lib.hid (sz_bd HL.out (by rw [Num.unitR_length]; omega) (by omega))
      have HCB : Hid (spMat.cnt ⟨x0, m, Num.unitR m⟩ ≤ 1000000000) := Lib.hid (cnt_bd HL.out (by rw [Num.unitR_length]; omega) (by omega))
      have b0 : Below w.heap.size w (w.alloc (.cells #[.int .i64 0, .int .i64 0, .slice none 0 0] 26)) := by go_grown
      have B0 := Blk.new w [.int .i64 0, .int .i64 0, .slice none 0 0] 26
      have HU := Lib.hid (sUnit_any m (w.alloc (.cells #[.int .i64 0, .int .i64 0, .slice none 0 0] 26)) (by omega))
      clear h1 eR eC
      go_enter Try.func31, Try.ntmps31
      go_wp2_with (first | (go_at_call 70; refine (sPrime_yes _ _ H1.out).mono ?_; rintro e w' ⟨rfl, rfl⟩) | (go_at_call 76; refine (sIn_yes _ _ _ _ h20 h21).mono ?_; rintro e w' ⟨rfl, rfl⟩))
      refine HU.out.mono ?_; rintro e w1 ⟨u, S, rfl, ow, hS, hb⟩
      have B1 := B0.below hb
      have L1 := bstep b0 (by go_size) hb
      have HC := Lib.hid (sMake_any x0 m u (Num.unitR m) w1 (spII.own_rd ow) HSZ.out)
      clear ow hS hb B0 b0
      go_wp2_with (fail)
      refine HC.out.mono ?_; rintro e w2 ⟨u2, S2, rfl, ⟨v2, T2, rfl, o2, sub2, -⟩, hS2, hb2⟩
      obtain ⟨A2, c2, rfl, -, -⟩ := spII.own_rd o2
      have B2 := B1.below hb2
      have L2 := bstep L1 L1.size hb2
      have lt1 := B1.lt
      have HT : Hid (∀ k, T2 k → w.heap.size ≤ k) := Lib.hid fun k h => by have := hS2 k (sub2 k h); omega
      have nT : ¬ T2 w.heap.size := fun h => by have := hS2 _ (sub2 _ h); omega
      clear hb2 hS2 sub2 L1 B1
      obtain ⟨bl, q0, q1, q2⟩ := B2.c3
      obtain ⟨f0, f1, f2⟩ := B2.f3
      have HO := Lib.hid o2
      clear o2
      go_wp2_with (fail)
      refine bodyPost_ret (v := .tuple #[.agg #[.int .i64 x0, .int .i64 m, .slice A2 (Num.unitR m).length c2], .int .i64 0]) (by simp [results, Try.results31, go_sem, bl, q0, q1, q2]) rfl ?_
      refine MadeC.mat (S := T2) rfl ?_ HT.out HCB.out ?_
      · exact spII.own_set (spII.own_set (spII.own_set HO.out (p := ⟨w.heap.size, 0, none⟩) nT _) (p := ⟨w.heap.size, 1, none⟩) nT _) (p := ⟨w.heap.size, 2, none⟩) nT _
      · exact ((L2.setCell (p := ⟨w.heap.size, 0, none⟩) (by simp) _).setCell (p := ⟨w.heap.size, 1, none⟩) (by simp) _).setCell (p := ⟨w.heap.size, 2, none⟩) (by simp) _
    · have eR : rIdentityMatrix x0 x1 = noMat := by unfold rIdentityMatrix okIdent; rw [decide_eq_false h2]; simp
      have eC : cIdentityMatrix x0 x1 = 2 := by unfold cIdentityMatrix okIdent; rw [decide_eq_false h2]; simp
      rw [eR, eC]
      have H1 := Lib.hid h1
      have H2 : Hid (x1 < 0 ∨ 8 < x1) := Lib.hid (by omega)
      clear h1 h2 eR eC
      go_enter Try.func31, Try.ntmps31
      go_wp2_with (first | (go_at_call 70; refine (sPrime_yes _ _ H1.out).mono ?_; rintro e w' ⟨rfl, rfl⟩) | (go_at_call 76; refine (sIn_no _ _ _ _ H2.out).mono ?_; rintro e w' ⟨rfl, rfl⟩))
      refine bodyPost_ret (v := .tuple #[.agg #[.int .i64 0, .int .i64 0, .slice none 0 0], .int .i64 2]) (by simp [results, Try.results31, go_sem]) rfl ?_
      exact MadeC.none rfl (by go_grown)
  · have h1' : Num.gp x0 = false := by simpa using h1
    have eR : rIdentityMatrix x0 x1 = noMat := by unfold rIdentityMatrix okIdent; rw [h1']; simp
    have eC : cIdentityMatrix x0 x1 = 2 := by unfold cIdentityMatrix okIdent; rw [h1']; simp
    rw [eR, eC]
    have H1 := Lib.hid h1'
    clear h1 h1' eR eC
    go_enter Try.func31, Try.ntmps31
    go_wp2_with (go_at_call 70; refine (sPrime_no _ _ H1.out).mono ?_; rintro e w' ⟨rfl, rfl⟩)
    refine bodyPost_ret (v := .tuple #[.agg #[.int .i64 0, .int .i64 0, .slice none 0 0], .int .i64 2]) (by simp [results, Try.results31, go_sem]) rfl ?_
    exact MadeC.none rfl (by go_grown)
end Go.Proofs.Ytbmjkkcjiofkpaa
