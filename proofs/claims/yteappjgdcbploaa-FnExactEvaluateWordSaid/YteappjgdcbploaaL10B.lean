/- Words: reduced forms, of the program and of the model. -/
import Derived.Test.YteappjgdcbploaaL10A
import Derived.Test.YteappjgdcbploaaKB
import Derived.Maps.AppendAt
namespace Go.Proofs.Yteappjgdcbploaa
open Go.RowKit
set_option linter.unusedVariables false
set_option linter.unusedSimpArgs false

/-- A list that is not empty: its last element, and the list without it. -/
theorem OwnI.last {w : World} {base : Nat} {v : Value} {o : List Int} {y : Int} (h : OwnI w base v (o ++ [y])) :
    ∃ g n c, v = .slice (some ⟨g, 0, none⟩) n c ∧ n = o.length + 1 ∧ n ≤ c ∧ c ≤ maxLen ∧ base ≤ g ∧ OwnI w base (.slice (some ⟨g, 0, none⟩) (n - 1) c) o ∧ w.cell? ⟨g, n - 1, none⟩ = some (.int .i64 y) := by
  have h' := h
  unfold OwnI at h'
  rcases h'.2 with ⟨_, h0⟩ | ⟨g, cap, cur, rfl, hb, hg, hn, hm, hs, ht⟩
  · simp at h0
  · have hl : (o ++ [y]).length = o.length + 1 := by simp
    refine ⟨g, _, cap, rfl, hl, hn, hm, hb, ⟨by simp, .inr ⟨g, cap, cur, by rw [hl]; rfl, hb, hg, by omega, hm, hs, ?_⟩⟩, ?_⟩
    · have ht' := congrArg (fun l => List.take (o.length * 1) l) ht
      simp only [List.take_take, List.map_append, List.map_cons, List.map_nil] at ht'
      rw [Nat.min_eq_left (by omega)] at ht'
      rw [ht', List.take_append_of_le_length (by simp)]
      exact List.take_of_length_le (by simp)
    · have hc := World.ownsRow.cellAt h' (o.length) (by omega)
      rw [show (o ++ [y]).length - 1 = o.length by omega, hc]
      simp
theorem push_post {w wr w1 : World} {v v1 : Value} {xs : List Int} {x : Int} {t : TypeId} (own : OwnI wr w.heap.size v xs) (bw : Below w.heap.size w wr)
    (hown1 : w1.ownsRow w.heap.size 2 1 v1 (xs.length + 1) (xs.map (Value.int .i64) ++ [.int .i64 x])) (hg : (wr.alloc (.cells #[.int .i64 x] t)).grownBy w1 v.ownBlock) :
    OwnI w1 w.heap.size v1 (xs ++ [x]) ∧ Below w.heap.size w w1 :=
  ⟨OwnI.snoc hown1, (bw.alloc bw.size _).grown hg (by have := bw.size; go_size) (fun k hk => (World.ownsRow.lt own k hk).1)⟩

/-- The words that a list of lists holds. -/
def RdW (w : World) (A : Option Addr) (fs : List (List Int)) : Prop := ∀ i, i < fs.length → ∃ g o B c, A = some ⟨g, o, none⟩ ∧ g < w.heap.size ∧ w.cell? ⟨g, o + i, none⟩ = some (.slice B (fs.getD i []).length c) ∧ (fs.getD i []).length ≤ maxLen ∧ RdI w B (fs.getD i [])
theorem RdW.below' {w w' : World} {A : Option Addr} {fs : List (List Int)} (h : RdW w A fs) (hb : Below w.heap.size w w') : RdW w' A fs := by
  intro i hi
  obtain ⟨g, o, B, c, rfl, hg, hc, hl, hr⟩ := h i hi
  exact ⟨g, o, B, c, rfl, by have := hb.size; omega, by rw [hb.cell hg]; exact hc, hl, hr.below' hb⟩
theorem RdW.of {w : World} {A : Option Addr} {n c : Nat} {fs : List (List Int)} (h : spII.rd w (.slice A n c) fs) : n = fs.length ∧ fs.length ≤ maxLen ∧ RdW w A fs := by
  obtain ⟨A', c', e, hm, hr⟩ := h
  simp only [Value.slice.injEq] at e
  obtain ⟨rfl, rfl, rfl⟩ := e
  refine ⟨rfl, hm, fun i hi => ?_⟩
  obtain ⟨g, o, v, e, hg, hc, B, cB, hv, hlm, hrd⟩ := hr i hi
  subst hv
  exact ⟨g, o, B, cB, e, hg, hc, hlm, hrd⟩

end Go.Proofs.Yteappjgdcbploaa
