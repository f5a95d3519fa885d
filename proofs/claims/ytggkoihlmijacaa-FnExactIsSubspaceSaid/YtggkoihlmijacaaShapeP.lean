/- Shapes: a row of a list replaced by another one. -/
import Derived.Test.YtggkoihlmijacaaBlk
namespace Go.Proofs.Ytggkoihlmijacaa
open Go.RowKit
set_option linter.unusedVariables false
set_option linter.unusedSimpArgs false
variable {α : Type}

theorem getD_set {β : Type} (L : List β) (d v : β) (i j : Nat) (hi : i < L.length) : (L.set i v).getD j d = if j = i then v else L.getD j d := by
  by_cases h : j = i
  · subst h; rw [if_pos rfl, List.getD_eq_getElem?_getD, List.getElem?_set_self hi]; rfl
  · rw [if_neg h, List.getD_eq_getElem?_getD, List.getElem?_set_ne (Ne.symm h), ← List.getD_eq_getElem?_getD]
/-- The row at j of an owned list: where it lies. -/
theorem spL_own_at {E : TypeId} {s : Sp α} {nul : α} {w : World} {S : Nat → Prop} {v : Value} {xs : List α} (h : (spL E s nul).own w S v xs) {j : Nat} (hj : j < xs.length) :
    ∃ g c u T, v = .slice (some ⟨g, 0, none⟩) xs.length c ∧ S g ∧ g < w.heap.size ∧ w.cell? ⟨g, j, none⟩ = some u ∧ w.frozen? ⟨g, j, none⟩ = false ∧ s.own w T u (xs.getD j nul) ∧ (∀ k, T k → S k) ∧ ¬ T g := by
  obtain ⟨vs, T, h1, h2, h3, h4, h5, h6⟩ := h
  have hvl : vs.length = xs.length := by have := h1.1; simpa using this
  have h1' := h1
  rcases h1.2 with ⟨hv, h0⟩ | ⟨g, c, cur, hv, hb, hg, r⟩
  · omega
  · subst hv
    have hS := h5 g rfl
    refine ⟨g, c, vs.getD j undef, T j, rfl, hS, h6 g hS, ?_, h1'.frozenAt j, h2 j hj, fun k hk => (h4 j hj k hk).1, fun hT => (h4 j hj g hT).2 rfl⟩
    rw [h1'.cellAt j (by omega), List.getD_eq_getElem?_getD, List.getElem?_eq_getElem (by omega)]
    rfl
/-- A row replaced by one in new memory. -/
theorem spL_put {E : TypeId} {s : Sp α} {nul : α} {w w2 : World} {S S2 : Nat → Prop} {g n c : Nat} {u : Value} {x : α} {xs : List α} (h : (spL E s nul).own w S (.slice (some ⟨g, 0, none⟩) n c) xs) {j : Nat} (hj : j < xs.length)
    (hb : Below w.heap.size w w2) (hu : s.own w2 S2 u x) (hS2 : ∀ k, S2 k → w.heap.size ≤ k) :
    (∃ ov, w2.cell? ⟨g, j, none⟩ = some ov) ∧ w2.frozen? ⟨g, j, none⟩ = false ∧ (spL E s nul).own (w2.setCell ⟨g, j, none⟩ u) (fun k => S k ∨ S2 k) (.slice (some ⟨g, 0, none⟩) n c) (xs.set j x) ∧ w2.grownBy (w2.setCell ⟨g, j, none⟩ u) (some g) := by
  have h0 := (spL E s nul).own_below h hb
  obtain ⟨vs, T, h1, h2, h3, h4, h5, h6⟩ := h
  have hvl : vs.length = xs.length := by have := h1.1; simpa using this
  obtain rfl : n = xs.length := by
    obtain ⟨A', c', hv, _⟩ := ownsRow_cap h1
    simp only [Value.slice.injEq] at hv
    exact hv.2.1
  have hSg := h5 g rfl
  have hgl := h6 g hSg
  have o2 := World.ownsRow.kept (row := none) h1 ⟨hb.os, hb.tape, hb.output, hb.size, fun k hk _ => hb.block k hk⟩ (.inr (by simp [Value.ownBlock]))
  obtain ⟨st1, st2⟩ := o2.stored j u
  refine ⟨⟨vs[j], by rw [o2.cellAt j (by omega)]; exact List.getElem?_eq_getElem (by omega)⟩, o2.frozenAt j, ⟨vs.set j u, fun i => if i = j then S2 else T i, by rw [List.length_set]; exact st1, fun i hi => ?_, fun i j' hij hj' k => ?_, fun i hi k hk => ?_, fun k hk => .inl (h5 k hk), fun k hk => ?_⟩, st2⟩
  · rw [List.length_set] at hi
    rw [getD_set _ _ _ _ _ (by omega), getD_set _ _ _ _ _ hj]
    show s.own _ (if i = j then S2 else T i) _ _
    by_cases e : i = j
    · rw [if_pos e, if_pos e, if_pos e]
      refine s.own_set hu (fun hk => ?_) u
      have := hS2 g hk
      omega
    · rw [if_neg e, if_neg e, if_neg e]
      exact s.own_set (s.own_below (h2 i hi) hb) (fun hk => (h4 i hi g hk).2 rfl) u
  · rw [List.length_set] at hj'
    show (if i = j then S2 else T i) k → ¬ (if j' = j then S2 else T j') k
    by_cases e : i = j
    · rw [if_pos e, if_neg (by omega)]
      intro a b
      have := s.own_lt (h2 j' hj') b
      have := hS2 k a
      omega
    · rw [if_neg e]
      by_cases e2 : j' = j
      · rw [if_pos e2]
        intro a b
        have := s.own_lt (h2 i (by omega)) a
        have := hS2 k b
        omega
      · rw [if_neg e2]
        exact h3 i j' hij hj' k
  · rw [List.length_set] at hi
    change (if i = j then S2 else T i) k at hk
    by_cases e : i = j
    · rw [if_pos e] at hk
      refine ⟨.inr hk, fun e2 => ?_⟩
      have := hS2 k hk
      simp [Value.ownBlock] at e2
      omega
    · rw [if_neg e] at hk
      exact ⟨.inl (h4 i hi k hk).1, (h4 i hi k hk).2⟩
  · rcases hk with hk | hk
    · have := h6 k hk; have := hb.size; simp; omega
    · have := s.own_lt hu hk; simpa using this
end Go.Proofs.Ytggkoihlmijacaa
