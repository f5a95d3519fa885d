/- The model's InverseMatrix. -/
import Derived.Test.YtggkoihlmijacaaL03J
import Derived.Test.YtggkoihlmijacaaL03D
namespace Go.Proofs.Ytggkoihlmijacaa
open Go.RowKit
set_option linter.unusedVariables false
set_option linter.unusedSimpArgs false

def Num.invTo (E : List (List Int)) (C j : Nat) : List (List Int) := (E.take j).map (List.drop C)
theorem Num.invTo_step {E : List (List Int)} {C j : Nat} (h : j < E.length) : Num.invTo E C (j + 1) = Num.invTo E C j ++ [(E.getD j []).drop C] := by
  unfold Num.invTo
  rw [Num.take_snoc _ [] h, List.map_append]
  rfl
theorem Num.invTo_len {E : List (List Int)} {C j : Nat} : (Num.invTo E C j).length ≤ j := by
  unfold Num.invTo
  rw [List.length_map, List.length_take]; omega
def InvPost (p : Int) (rows : List (List Int)) (w : World) (e : Ending) (w' : World) : Prop :=
  ((∀ i, i < (Num.wideE p rows).length → Num.lead ((Num.wideE p rows).getD i []) = i) ∧ ∃ u S, e = .returned (.tuple #[u, .bool true]) ∧ spII.own w' S u (Num.invR p rows rows.length) ∧ (∀ k, S k → w.heap.size ≤ k) ∧ Below w.heap.size w w') ∨
  (¬ (∀ i, i < (Num.wideE p rows).length → Num.lead ((Num.wideE p rows).getD i []) = i) ∧ e = .returned (.tuple #[.slice none 0 0, .bool false]) ∧ Below w.heap.size w w')
set_option maxRecDepth 100000 in
set_option maxHeartbeats 1000000 in
theorem sSquare_any (v0 : Value) (x0 : Mat) (w : World) (h0 : spMat.rd w v0 x0) : Calls Try.prog 88 #[v0] w fun e w' => e = .returned (.bool (decide ((x0.R.length : Int) = x0.C))) ∧ Below w.heap.size w w' := by
  obtain ⟨A0, n0, c0, rfl, r0⟩ := spMat_form h0
  obtain ⟨rfl, -, -, -⟩ := rdII_of r0
  have b0 : Below w.heap.size w (w.alloc (.cells [.int .i64 x0.P, .int .i64 x0.C, .slice A0 x0.R.length c0].toArray 27)) := by go_grown
  obtain ⟨bl1, a0, a1, a2⟩ := (Blk.new w [.int .i64 x0.P, .int .i64 x0.C, .slice A0 x0.R.length c0] 27).c3
  clear h0 r0
  go_enter Try.func88, Try.ntmps88
  go_wp2_with (fail)
  go_ret
  exact ⟨rfl, b0⟩
theorem sSquare_yes (v0 : Value) (x0 : Mat) (w : World) (h0 : spMat.rd w v0 x0) (h : (x0.R.length : Int) = x0.C) : Calls Try.prog 88 #[v0] w (RetB true w) := by
  have := sSquare_any v0 x0 w h0; rwa [decide_eq_true h] at this
theorem sSquare_no (v0 : Value) (x0 : Mat) (w : World) (h0 : spMat.rd w v0 x0) (h : ¬ (x0.R.length : Int) = x0.C) : Calls Try.prog 88 #[v0] w (RetB false w) := by
  have := sSquare_any v0 x0 w h0; rwa [decide_eq_false h] at this
end Go.Proofs.Ytggkoihlmijacaa
