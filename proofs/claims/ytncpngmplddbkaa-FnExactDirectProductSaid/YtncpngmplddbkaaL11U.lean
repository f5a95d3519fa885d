/- Presentations: the model's l07Shift. -/
import Derived.Test.YtncpngmplddbkaaL11P
import Derived.Test.YtncpngmplddbkaaNumDp
import Derived.Test.YtncpngmplddbkaaApZ
namespace Go.Proofs.Ytncpngmplddbkaa
open Go.RowKit
set_option linter.unusedVariables false
set_option linter.unusedSimpArgs false

set_option maxRecDepth 100000 in
set_option maxHeartbeats 1000000 in
theorem sShift_any (m k : Nat) (A : Option Addr) (c : Nat) (xs : List Int) (w : World) (hx : RdI w A xs) (hm : m ≤ 64) (hl : xs.length ≤ 64) (hk : k ≤ 64) :
    Calls Try.prog 81 #[.int .i64 (m : Int), .slice A xs.length c, .int .i64 (k : Int)] w fun e w' => ∃ u, e = .returned u ∧ OwnI w' w.heap.size u (List.replicate m 0 ++ xs ++ List.replicate k 0) ∧ Below w.heap.size w w' := by
  obtain ⟨iT, hiT, hz0, hz1, hz2⟩ := info_parts infoI
  have HX := Lib.hid hx
  have HL : Hid ((List.replicate m (0 : Int) ++ xs).length = m + xs.length) := Lib.hid (by simp)
  have m0 : (0 : Int) ≤ (m : Int) := by omega
  clear hx
  go_enter Try.func81, Try.ntmps81
  go_wp2_with (first
    | (at_make; refine wpList_make_full _ rfl (.tmp 8) (.tmp 8) 22 rfl w.heap.size 2 iT (.int .i64 0) 1 Try.underlying22 hiT hz0 hz1 .i64 .i64 (m : Int) (m : Int) m rfl rfl rfl rfl (by rw [hz2]; omega) (by unfold maxLen; omega) (Nat.le_refl _) ?_; intro w1 own1 gr1; have o1 := madeZ own1; have B1 : Below w.heap.size w w1 := (Below.refl _ _).grown gr1 (Nat.le_refl _) (fun k hk => by simp at hk))
    | (at_builtin; refine wpList_app_ints _ rfl _ _ rfl w.heap.size _ (List.replicate m 0) xs rfl o1 A _ c rfl rfl (HX.out.below' B1) (by simp; omega) B1.size ?_; intro v2 w2 own2 gr2 at2; have B2 := B1.grown gr2 B1.size (fun k hk => (World.ownsRow.lt o1 k hk).1); obtain ⟨A2, n2, c2, rfl, e2⟩ := own2.formN; obtain ⟨v3, w3, hrun, own3, gr3, at3⟩ := run_append_zeros_own (P := Try.prog) w2 w.heap.size 22 3 22 2 iT (.int .i64 0) 1 8 .i64 .i64 Try.underlying22 Try.underlying3 hiT hz0 hz1 hz2 rfl (by decide) (.slice A2 n2 c2) (List.replicate m 0 ++ xs).length ((List.replicate m 0 ++ xs).map (Value.int .i64)) (show w2.ownsRow w.heap.size 2 1 (.slice A2 n2 c2) (List.replicate m (0 : Int) ++ xs).length ((List.replicate m (0 : Int) ++ xs).map (Value.int .i64)) from own2) k (fun u hu => by rw [zeros_ints] at hu; exact oneCell_ints _ u hu) (by rw [HL.out]; unfold maxLen; omega) (by rw [HL.out]; omega) B2.size; have HRUN := Lib.hid hrun; have HO3 := Lib.hid own3; have B3 := B2.grown gr3 B2.size (fun k hk => (World.ownsRow.lt own2 k hk).1); clear hrun own3)
    | (at_builtin; refine Lib.wpList_append_run _ rfl _ _ _ _ rfl _ _ rfl rfl _ _ HRUN.out ?_))
  go_ret
  refine ⟨_, rfl, ?_, B3⟩
  have h := HO3.out
  rw [zeros_ints, ← List.map_append] at h
  unfold OwnI
  have e : (List.replicate m (0 : Int) ++ xs ++ List.replicate k 0).length = (List.replicate m (0 : Int) ++ xs).length + k := by rw [List.length_append, List.length_replicate]
  rw [e]
  exact h
end Go.Proofs.Ytncpngmplddbkaa
