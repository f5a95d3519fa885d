/- Shapes: a row of a list of lists grows by one number. -/
import Derived.Test.YtbmjkkcjiofkpaaShapeP
import Derived.Test.YtbmjkkcjiofkpaaOwn
namespace Go.Proofs.Ytbmjkkcjiofkpaa
open Go.RowKit
set_option linter.unusedVariables false
set_option linter.unusedSimpArgs false

theorem spII_grow {w : World} {S : Nat → Prop} {g n c : Nat} {xs : List (List Int)} (h : spII.own w S (.slice (some ⟨g, 0, none⟩) n c) xs) {j : Nat} (hj : j < xs.length) :
    ∃ u, w.cell? ⟨g, j, none⟩ = some u ∧ w.ownsRow 0 2 1 u (xs.getD j []).length ((xs.getD j []).map (Value.int .i64)) ∧ S g ∧ g < w.heap.size ∧ (∀ k, u.ownBlock = some k → S k ∧ k ≠ g) ∧
      ∀ (w1 w2 : World) (u' : Value) (y : Int), Below w.heap.size w w1 → w2.ownsRow 0 2 1 u' ((xs.getD j []).length + 1) ((xs.getD j []).map (Value.int .i64) ++ [.int .i64 y]) → w1.grownBy w2 u.ownBlock → (u'.ownBlock = u.ownBlock ∨ u'.ownBlock = some w1.heap.size) →
        (∃ ov, w2.cell? ⟨g, j, none⟩ = some ov) ∧ w2.frozen? ⟨g, j, none⟩ = false ∧ spII.own (w2.setCell ⟨g, j, none⟩ u') (fun k => S k ∨ u'.ownBlock = some k) (.slice (some ⟨g, 0, none⟩) n c) (xs.set j (xs.getD j [] ++ [y])) := by
  obtain ⟨vs, T, h1, h2, h3, h4, h5, h6⟩ := h
  have hvl : vs.length = xs.length := by have := h1.1; simpa using this
  obtain rfl : n = xs.length := by
    obtain ⟨A', c', hv, _⟩ := ownsRow_cap h1
    simp only [Value.slice.injEq] at hv
    exact hv.2.1
  have hSg := h5 g rfl
  have hgl := h6 g hSg
  obtain ⟨r1, r2, r3⟩ := h2 j hj
  have hug : ∀ k, (vs.getD j undef).ownBlock = some k → S k ∧ k ≠ g := fun k hk => ⟨(h4 j hj k (r2 k hk)).1, fun e => (h4 j hj k (r2 k hk)).2 (by rw [e]; rfl)⟩
  refine ⟨vs.getD j undef, ?_, r1, hSg, hgl, hug, fun w1 w2 u' y hb hu hgr hat => ?_⟩
  · rw [h1.cellAt j (by omega), List.getD_eq_getElem?_getD, List.getElem?_eq_getElem (by omega)]
    rfl
  have keep : ∀ k, k < w.heap.size → ¬ (vs.getD j undef).ownBlock = some k → w2.heap[k]? = w.heap[k]? := fun k hk hne => by
    rw [hgr.block k (Nat.lt_of_lt_of_le hk hb.size) (fun e => hne e.symm), hb.block k hk]
  have o2 : w2.ownsRow 0 45 1 (.slice (some ⟨g, 0, none⟩) xs.length c) xs.length vs := ownsRow_keep h1 fun k e => by
    have e' : g = k := by simpa [Value.ownBlock] using e
    subst e'
    exact keep _ hgl fun e2 => (hug _ e2).2 rfl
  obtain ⟨st1, st2⟩ := o2.stored j u'
  have hub : ∀ k, u'.ownBlock = some k → k < w2.heap.size := fun k hk => (World.ownsRow.lt hu k hk).2
  have hu_or : ∀ k, u'.ownBlock = some k → (vs.getD j undef).ownBlock = some k ∨ w.heap.size ≤ k := fun k hk => by
    rcases hat with e | e
    · exact .inl (by rw [← e]; exact hk)
    · rw [e] at hk
      have : w1.heap.size = k := by simpa using hk
      have := hb.size
      exact .inr (by omega)
  have hu_g : ∀ k, u'.ownBlock = some k → k ≠ g := fun k hk e => by
    rcases hu_or k hk with h | h
    · exact (hug k h).2 e
    · omega
  have hu_T : ∀ i, i < xs.length → i ≠ j → ∀ k, u'.ownBlock = some k → ¬ T i k := fun i hi hij k hk hT => by
    rcases hu_or k hk with h | h
    · rcases Nat.lt_or_gt_of_ne hij with h' | h'
      · exact h3 i j h' hj k hT (r2 k h)
      · exact h3 j i h' hi k (r2 k h) hT
    · have := h6 k (h4 i hi k hT).1
      omega
  refine ⟨⟨vs[j], by rw [o2.cellAt j (by omega)]; exact List.getElem?_eq_getElem (by omega)⟩, o2.frozenAt j, ⟨vs.set j u', fun i => if i = j then (fun k => u'.ownBlock = some k) else T i, by rw [List.length_set]; exact st1, fun i hi => ?_, fun i j' hij hj' k => ?_, fun i hi k hk => ?_, fun k hk => .inl (h5 k hk), fun k hk => ?_⟩⟩
  · rw [List.length_set] at hi
    rw [getD_set _ _ _ _ _ (by omega), getD_set _ _ _ _ _ hj]
    show spI.own _ (if i = j then (fun k => u'.ownBlock = some k) else T i) _ _
    by_cases e : i = j
    · rw [if_pos e, if_pos e, if_pos e]
      refine spI.own_set ⟨?_, fun k hk => hk, fun k hk => hub k hk⟩ (fun hk => hu_g g hk rfl) u'
      simpa using hu
    · rw [if_neg e, if_neg e, if_neg e]
      refine spI.own_set (spI.own_keep (h2 i hi) fun k hk => keep k (h6 k (h4 i hi k hk).1) fun e2 => ?_) (fun hk => (h4 i hi g hk).2 rfl) u'
      rcases Nat.lt_or_gt_of_ne e with h' | h'
      · exact h3 i j h' hj k hk (r2 k e2)
      · exact h3 j i h' hi k (r2 k e2) hk
  · rw [List.length_set] at hj'
    show (if i = j then (fun k => u'.ownBlock = some k) else T i) k → ¬ (if j' = j then (fun k => u'.ownBlock = some k) else T j') k
    by_cases e : i = j
    · rw [if_pos e, if_neg (by omega)]
      exact fun a => hu_T j' hj' (by omega) k a
    · rw [if_neg e]
      by_cases e2 : j' = j
      · rw [if_pos e2]
        exact fun a b => hu_T i (by omega) e k b a
      · rw [if_neg e2]
        exact h3 i j' hij hj' k
  · rw [List.length_set] at hi
    change (if i = j then (fun k => u'.ownBlock = some k) else T i) k at hk
    by_cases e : i = j
    · rw [if_pos e] at hk
      exact ⟨.inr hk, fun e2 => hu_g k hk (by simpa [Value.ownBlock] using e2.symm)⟩
    · rw [if_neg e] at hk
      exact ⟨.inl (h4 i hi k hk).1, (h4 i hi k hk).2⟩
  · rcases hk with hk | hk
    · have := h6 k hk; have := hb.size; have := hgr.size; simp; omega
    · have := hub k hk; simpa using this
end Go.Proofs.Ytbmjkkcjiofkpaa
