/- Contracts of the laws' helpers at Abelian: measure, copy, comparison, marks. -/
import Derived.Test.YteappjgdcbploaaKB
namespace Go.Proofs.Yteappjgdcbploaa
open Go.RowKit
set_option linter.unusedVariables false
set_option linter.unusedSimpArgs false

structure Ab where
  F : List Int
  K : Int
def spAb : Sp Ab where
  rd w v x := ∃ v0, v = .agg #[v0, .int .i64 x.K] ∧ spI.rd w v0 x.F
  own w S v x := ∃ (v0 : Value) (T0 : Nat → Prop), v = .agg #[v0, .int .i64 x.K] ∧ spI.own w T0 v0 x.F ∧ (∀ k, T0 k → S k) ∧ ∀ k, S k → k < w.heap.size
  sz x := spI.sz x.F
  cnt x := spI.cnt x.F
  mark k x := { x with F := spI.mark (k) x.F }
  rd_keep := fun ⟨v0, e, r0⟩ hz hk => ⟨v0, e, spI.rd_keep r0 hz hk⟩
  own_keep := fun {w w' S v x} ⟨v0, T0, e, o0, s0, hl⟩ hk => ⟨v0, T0, e, spI.own_keep o0 (fun k h => hk k (s0 k h)), s0, fun k hS => heap_lt (hl k hS) (hk k hS)⟩
  own_lt := fun ⟨_, _, _, _, _, hl⟩ hS => hl _ hS
  own_rd := fun ⟨v0, T0, e, o0, s0, hl⟩ => ⟨v0, e, spI.own_rd o0⟩

theorem spAb_cnt (x : Ab) : spAb.cnt x ≤ spAb.sz x := by
  show spI.cnt x.F ≤ spI.sz x.F
  have e0 := spI_cnt x.F
  omega
theorem spAb_form {w : World} {v : Value} {x : Ab} (h : spAb.rd w v x) : ∃ A0 n0 c0, v = .agg #[.slice A0 n0 c0, .int .i64 x.K] ∧ spI.rd w (.slice A0 n0 c0) x.F := by
  obtain ⟨v0, rfl, r0⟩ := h
  obtain ⟨A0, c0, rfl, m0, q0⟩ := r0
  exact ⟨A0, _, c0, rfl, ⟨A0, c0, rfl, m0, q0⟩⟩
end Go.Proofs.Yteappjgdcbploaa
