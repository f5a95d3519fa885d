/- Presentations: unit vectors, slices.Clone of whole numbers. -/
import Derived.Test.YteappjgdcbploaaL11L
import Derived.Test.YteappjgdcbploaaStep
import Derived.Deep.RegionLaw
namespace Go.Proofs.Yteappjgdcbploaa
open Go.RowKit
set_option linter.unusedVariables false
set_option linter.unusedSimpArgs false

/-- The unit vector of a generator, of n zeros. -/
def Num.unit7 (n i : Nat) : List Int := (List.replicate n 0).set i 1
theorem Num.unit7_len (n i : Nat) : (Num.unit7 n i).length = n := by simp [Num.unit7]
theorem madeZ {w1 : World} {base b n : Nat} (own1 : w1.ownsRow base 2 1 (.slice (some ⟨b, 0, none⟩) n n) n (madeCells (Value.int .i64 0).cells (n * 1)).toList) : OwnI w1 base (.slice (some ⟨b, 0, none⟩) n n) (List.replicate n 0) := by
  unfold OwnI
  have e : (madeCells (Value.int .i64 0).cells (n * 1)).toList = (List.replicate n (0 : Int)).map (Value.int .i64) := by
    show (madeCells #[Value.int .i64 0] (n * 1)).toList = _
    rw [toList_madeCells_one]
    simp
  rw [e] at own1
  simpa using own1
theorem madeZ_at {w1 : World} {base b n i : Nat} (hi : i < n) (own1 : w1.ownsRow base 2 1 (.slice (some ⟨b, 0, none⟩) n n) n (madeCells (Value.int .i64 0).cells (n * 1)).toList) :
    w1.cell? ⟨b, i, none⟩ = some (.int .i64 0) ∧ w1.frozen? ⟨b, i, none⟩ = false ∧ OwnI w1 base (.slice (some ⟨b, 0, none⟩) n n) (List.replicate n 0) := by
  have o := madeZ own1
  obtain ⟨h1, h2⟩ := o.at_ i (by simpa using hi)
  refine ⟨?_, h2, o⟩
  rw [h1]
  congr 2
  rw [List.getD_eq_getElem?_getD, List.getElem?_replicate, if_pos hi]
  rfl
set_option maxRecDepth 100000 in
set_option maxHeartbeats 1000000 in
theorem sUnit_any (n i : Nat) (w : World) (hn : n ≤ 64) (hi : i < n) : Calls Try.prog 162 #[.int .i64 (n : Int), .int .i64 (i : Int)] w fun e w' => ∃ u, e = .returned u ∧ OwnI w' w.heap.size u (Num.unit7 n i) ∧ Below w.heap.size w w' := by
  obtain ⟨iT, hiT, hz0, hz1, hz2⟩ := info_parts infoI
  have i0 : (0 : Int) ≤ (i : Int) := by omega
  have i1 : (i : Int) < (n : Int) := by omega
  go_enter Try.func162, Try.ntmps162
  go_wp2_with (first | (at_make; refine wpList_make_full _ rfl (.tmp 6) (.tmp 6) 22 rfl w.heap.size 2 iT (.int .i64 0) 1 Try.underlying22 hiT hz0 hz1 .i64 .i64 (n : Int) (n : Int) n rfl rfl rfl rfl (by rw [hz2]; omega) (by unfold maxLen; omega) (Nat.le_refl _) ?_; intro w1 own1 gr1; obtain ⟨a0, f0, o1⟩ := madeZ_at hi own1))
  have bW : Below w.heap.size w w1 := (Below.refl _ _).grown gr1 (Nat.le_refl _) (fun k hk => by simp at hk)
  have O3 := Lib.hid (o1.set i 1)
  have L3 := Lib.hid (bW.setCell (p := ⟨w.heap.size, i, none⟩) (by simp) (.int .i64 1))
  go_wp2_with (fail)
  go_ret
  exact ⟨_, rfl, O3.out, L3.out⟩
end Go.Proofs.Yteappjgdcbploaa
