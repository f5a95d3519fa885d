/- A row of an own list changed where it lies. -/
import Derived.Test.YtahmhdpgdhfjnaaKB
namespace Go.Proofs.Ytahmhdpgdhfjnaa
open Go.RowKit
set_option linter.unusedVariables false
set_option linter.unusedSimpArgs false

theorem spL_in {α : Type} {E : TypeId} {s : Sp α} {nul : α} {w : World} {S : Nat → Prop} {v : Value} {xs : List α} (h : (spL E s nul).own w S v xs) {j : Nat} (hj : j < xs.length) :
    ∃ g c u T, v = .slice (some ⟨g, 0, none⟩) xs.length c ∧ S g ∧ g < w.heap.size ∧ w.cell? ⟨g, j, none⟩ = some u ∧ w.frozen? ⟨g, j, none⟩ = false ∧ s.own w T u (xs.getD j nul) ∧ (∀ k, T k → S k) ∧ ¬ T g ∧
      (∀ (w2 : World) (x' : α), ChgS T w w2 → s.own w2 T u x' → (spL E s nul).own w2 S v (xs.set j x')) := by
  obtain ⟨vs, T, h1, h2, h3, h4, h5, h6⟩ := h
  have hvl : vs.length = xs.length := by have := h1.1; simpa using this
  have h1' := h1
  rcases h1.2 with ⟨hv, h0⟩ | ⟨g, c, cur, hv, hb, hg, r⟩
  · omega
  · subst hv
    have hS := h5 g rfl
    have hgT : ∀ i, i < xs.length → ¬ T i g := fun i hi hT => (h4 i hi g hT).2 rfl
    refine ⟨g, c, vs.getD j undef, T j, rfl, hS, h6 g hS, ?_, h1'.frozenAt j, h2 j hj, fun k hk => (h4 j hj k hk).1, hgT j hj, fun w2 x' hc hx => ?_⟩
    · rw [h1'.cellAt j (by omega), List.getD_eq_getElem?_getD, List.getElem?_eq_getElem (by omega)]
      rfl
    · refine ⟨vs, T, by rw [List.length_set]; exact ownsRow_keep h1' fun k e => hc.block k (h6 k (h5 k e)) (fun hT => by
          have e' : some g = some k := e
          simp only [Option.some.injEq] at e'
          subst e'
          exact hgT j hj hT), fun i hi => ?_, fun i k hik hk => ?_, fun i hi => ?_, h5, fun k hk => Nat.lt_of_lt_of_le (h6 k hk) hc.size⟩
      · rw [List.length_set] at hi
        rw [getD_set _ _ _ _ _ hj]
        by_cases e : i = j
        · rw [if_pos e, e]; exact hx
        · rw [if_neg e]
          refine s.own_chg (h2 i hi) hc fun k h7 h8 => ?_
          rcases Nat.lt_or_gt_of_ne e with h9 | h9
          · exact h3 i j h9 hj k h7 h8
          · exact h3 j i h9 hi k h8 h7
      · rw [List.length_set] at hk
        exact h3 i k hik hk
      · rw [List.length_set] at hi
        exact h4 i hi
theorem spI_cellAt {w : World} {S : Nat → Prop} {v : Value} {x : List Int} (h : spI.own w S v x) {j : Nat} (hj : j < x.length) :
    ∃ g c, v = .slice (some ⟨g, 0, none⟩) x.length c ∧ S g ∧ g < w.heap.size ∧ w.cell? ⟨g, j, none⟩ = some (.int .i64 (x.getD j 0)) ∧ w.frozen? ⟨g, j, none⟩ = false := by
  obtain ⟨h1, h2, h3⟩ := h
  rcases h1.2 with ⟨hv, h0⟩ | ⟨g, c, cur, hv, hb, hg, r⟩
  · omega
  · have hS := h2 g (by rw [hv]; rfl)
    subst hv
    exact ⟨g, c, rfl, hS, h3 g hS, by rw [h1.cellAt j (by simpa using hj)]; simp [hj], h1.frozenAt _⟩
theorem spI_setAt {w : World} {S : Nat → Prop} {g n c : Nat} {x : List Int} (h : spI.own w S (.slice (some ⟨g, 0, none⟩) n c) x) {j : Nat} (hj : j < x.length) (y : Int) :
    spI.own (w.setCell ⟨g, j, none⟩ (.int .i64 y)) S (.slice (some ⟨g, 0, none⟩) n c) (x.set j y) := by
  obtain ⟨h1, h2, h3⟩ := h
  obtain rfl : n = x.length := by
    obtain ⟨A', c', hv, _⟩ := ownsRow_cap h1
    simp only [Value.slice.injEq] at hv
    exact hv.2.1
  obtain ⟨st1, gr1⟩ := h1.stored j (.int .i64 y)
  refine ⟨?_, h2, fun k hk => by have := h3 k hk; simpa using this⟩
  rw [List.length_set, List.map_set]
  exact st1
end Go.Proofs.Ytahmhdpgdhfjnaa
