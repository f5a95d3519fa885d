/- Presentations: CyclicPresentation of the program, whole. -/
import Derived.Test.YtncpngmplddbkaaL11S
namespace Go.Proofs.Ytncpngmplddbkaa
open Go.RowKit
set_option linter.unusedVariables false
set_option linter.unusedSimpArgs false

set_option maxRecDepth 100000 in
set_option maxHeartbeats 2000000 in
theorem iCyclicPresentation_ok (n : Int) (w : World) : Calls Try.prog 36 #[.int .i64 n] w (MadeC spPres (rCyclicPresentation n) (cCyclicPresentation n) w) := by
  by_cases hk : cycOk n
  · exact iCyclic_main n w hk
  · have HR : Hid (rCyclicPresentation n = noPres ∧ cCyclicPresentation n = 2) := Lib.hid ⟨if_neg (fun h => hk h.1), if_neg hk⟩
    have b0 : Below w.heap.size w (w.alloc (.cells #[.slice none 0 0, .slice none 0 0, .slice none 0 0] 29)) := by go_grown
    have BR := (Blk.new w [.slice none 0 0, .slice none 0 0, .slice none 0 0] 29)
    by_cases hb : n < 1 ∨ 1000000 < n
    · have HF := Lib.hid (factorize_bad n (w.alloc (.cells #[.slice none 0 0, .slice none 0 0, .slice none 0 0] 29)) hb)
      obtain ⟨br, r0, r1, r2⟩ := BR.c3
      obtain ⟨f0, f1, f2⟩ := BR.f3
      clear hk hb
      generalize hW0 : w.alloc (.cells #[.slice none 0 0, .slice none 0 0, .slice none 0 0] 29) = W0 at *
      go_enter Try.func36, Try.ntmps36
      go_wp2_with (fail)
      clear hW0
      refine HF.out.mono ?_; rintro e w' ⟨rfl, rfl⟩
      go_wp2_with (fail)
      refine bodyPost_ret (v := .tuple #[.agg #[.slice none 0 0, .slice none 0 0, .slice none 0 0], .int .i64 2]) (by simp [results, Try.results36, go_sem, br, r0, r1, r2]) rfl ?_
      rw [HR.out.1, HR.out.2]
      exact noPres_set b0 (Nat.le_refl _) _ _ _ _
    · have HF := Lib.hid (factorize_ok n (w.alloc (.cells #[.slice none 0 0, .slice none 0 0, .slice none 0 0] 29)) (by omega) (by omega))
      by_cases h7 : 729 < n
      · have d7 : decide (729 < n) = true := decide_eq_true h7
        clear hk hb
        generalize hW0 : w.alloc (.cells #[.slice none 0 0, .slice none 0 0, .slice none 0 0] 29) = W0 at *
        go_enter Try.func36, Try.ntmps36
        go_wp2_with (fail)
        clear hW0
        refine HF.out.mono ?_; rintro e w1 ⟨uP, uE, rfl, owP, owE, -, hb1⟩
        obtain ⟨br, r0, r1, r2⟩ := (BR.below hb1).c3
        obtain ⟨f0, f1, f2⟩ := (BR.below hb1).f3
        have L1 := bstep b0 b0.size hb1
        clear owP owE hb1 HF BR
        go_wp2_with (fail)
        refine bodyPost_ret (v := .tuple #[.agg #[.slice none 0 0, .slice none 0 0, .slice none 0 0], .int .i64 2]) (by simp [results, Try.results36, go_sem, br, r0, r1, r2]) rfl ?_
        rw [HR.out.1, HR.out.2]
        exact noPres_set L1 (Nat.le_refl _) _ _ _ _
      · have d7 : decide (729 < n) = false := decide_eq_false h7
        have hg : Num.gpsB (Num.facP 2 n) = false := by
          have h9 := (Num.cyc_facts (n := n) (by omega) (by omega)).1
          rw [h9]
          cases hv : Num.cycG n with
          | false => rfl
          | true => exact absurd ⟨by omega, by omega, hv⟩ hk
        have HLN : Hid ((Num.facP 2 n).length ≤ 729) := Lib.hid (by have := Num.facP_len (d := 2) (n := n) (by omega); omega)
        have HGB := Lib.hid hg
        clear hk hb hg
        generalize Num.facP 2 n = P at *
        generalize Num.facE 2 n = E at *
        generalize hW0 : w.alloc (.cells #[.slice none 0 0, .slice none 0 0, .slice none 0 0] 29) = W0 at *
        go_enter Try.func36, Try.ntmps36
        go_wp2_with (fail)
        clear hW0
        refine HF.out.mono ?_; rintro e w1 ⟨uP, uE, rfl, owP, owE, -, hb1⟩
        obtain ⟨AP, nP, cP, rfl, eP⟩ := owP.formN
        have HGPS := gps_any AP cP P w1 owP.reads (by have := HLN.out; unfold maxLen; omega)
        rw [HGB.out, eP] at HGPS
        have HG := Lib.hid HGPS
        obtain ⟨br, r0, r1, r2⟩ := (BR.below hb1).c3
        obtain ⟨f0, f1, f2⟩ := (BR.below hb1).f3
        have L1 := bstep b0 b0.size hb1
        clear owP owE hb1 HF BR HGPS eP
        go_wp2_with (fail)
        refine HG.out.mono ?_; rintro e w' ⟨rfl, rfl⟩
        go_wp2_with (fail)
        refine bodyPost_ret (v := .tuple #[.agg #[.slice none 0 0, .slice none 0 0, .slice none 0 0], .int .i64 2]) (by simp [results, Try.results36, go_sem, br, r0, r1, r2]) rfl ?_
        rw [HR.out.1, HR.out.2]
        exact noPres_set L1 (Nat.le_refl _) _ _ _ _
end Go.Proofs.Ytncpngmplddbkaa
