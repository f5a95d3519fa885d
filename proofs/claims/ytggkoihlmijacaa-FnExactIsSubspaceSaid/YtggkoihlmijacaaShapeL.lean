/- Shapes: lists of what lies in memory. -/
import Derived.Test.YtggkoihlmijacaaShape
namespace Go.Proofs.Ytggkoihlmijacaa
open Go.RowKit
set_option linter.unusedVariables false
set_option linter.unusedSimpArgs false
variable {α : Type}

def sumOf (f : α → Nat) (xs : List α) : Nat := (xs.map f).sum
theorem sumOf_take (f : α → Nat) (nul : α) (xs : List α) (j : Nat) (hj : j < xs.length) : sumOf f (xs.take (j + 1)) = sumOf f (xs.take j) + f (xs.getD j nul) := by
  unfold sumOf
  rw [List.take_succ_eq_append_getElem hj, List.map_append, List.sum_append]
  simp [hj]
theorem sumOf_le (f : α → Nat) (xs : List α) (j : Nat) : sumOf f (xs.take j) ≤ sumOf f xs := by
  unfold sumOf
  conv => rhs; rw [← List.take_append_drop j xs, List.map_append, List.sum_append]
  omega
theorem sumOf_el (f : α → Nat) (nul : α) (xs : List α) (j : Nat) (hj : j < xs.length) : f (xs.getD j nul) ≤ sumOf f xs := by
  have h1 := sumOf_take f nul xs j hj
  have h2 := sumOf_le f xs (j + 1)
  omega
theorem sumOf_mono {f g : α → Nat} (xs : List α) (h : ∀ x, f x ≤ g x) : sumOf f xs ≤ sumOf g xs := by
  unfold sumOf
  induction xs with
  | nil => simp
  | cons a l ih => simp only [List.map_cons, List.sum_cons]; have := h a; omega
theorem heap_lt {w w' : World} {k : Nat} (h : k < w.heap.size) (e : w'.heap[k]? = w.heap[k]?) : k < w'.heap.size := by
  by_cases hlt : k < w'.heap.size
  · exact hlt
  · rw [Array.getElem?_eq_none (by omega), Array.getElem?_eq_getElem h] at e
    cases e

/-- What list j of a marked list of lists is. -/
def markAt (s : Sp α) (nul : α) (k : Int) (xs : List α) (j : Nat) : α := s.mark (k + sumOf s.cnt (xs.take j)) (xs.getD j nul)
def spL (E : TypeId) (s : Sp α) (nul : α) : Sp (List α) where
  rd w v xs := ∃ A cap, v = .slice A xs.length cap ∧ xs.length ≤ maxLen ∧ ∀ j, j < xs.length → ∃ g o u, A = some ⟨g, o, none⟩ ∧ g < w.heap.size ∧ w.cell? ⟨g, o + j, none⟩ = some u ∧ s.rd w u (xs.getD j nul)
  own w S v xs := ∃ (vs : List Value) (T : Nat → Nat → Prop), w.ownsRow 0 E 1 v xs.length vs ∧ (∀ j, j < xs.length → s.own w (T j) (vs.getD j undef) (xs.getD j nul)) ∧ (∀ i j, i < j → j < xs.length → ∀ k, T i k → ¬ T j k) ∧
    (∀ j, j < xs.length → ∀ k, T j k → S k ∧ v.ownBlock ≠ some k) ∧ (∀ k, v.ownBlock = some k → S k) ∧ ∀ k, S k → k < w.heap.size
  sz xs := xs.length + sumOf s.sz xs
  cnt xs := sumOf s.cnt xs
  mark k xs := (List.range xs.length).map (markAt s nul k xs)
  rd_keep := fun ⟨A, cap, h1, h2, h3⟩ hz hk => ⟨A, cap, h1, h2, fun j hj => by
    obtain ⟨g, o, u, rfl, hg, hc, hr⟩ := h3 j hj
    exact ⟨g, o, u, rfl, by omega, by rw [World.cell?_of_block (hk g hg)]; exact hc, s.rd_keep hr hz hk⟩⟩
  own_keep := fun {w w' S v xs} ⟨vs, T, h1, h2, h3, h4, h5, h6⟩ hk => ⟨vs, T, ownsRow_keep h1 fun k e => hk k (h5 k e), fun j hj => s.own_keep (h2 j hj) fun k hT => hk k (h4 j hj k hT).1, h3, h4, h5, fun k hS => heap_lt (h6 k hS) (hk k hS)⟩
  own_lt := fun ⟨_, _, _, _, _, _, _, h6⟩ hS => h6 _ hS
  own_rd := fun {w S v xs} ⟨vs, T, h1, h2, h3, h4, h5, h6⟩ => by
    obtain ⟨A, cap, rfl, hm⟩ := ownsRow_cap h1
    refine ⟨A, cap, rfl, hm, fun j hj => ?_⟩
    have hvl : vs.length = xs.length := by have := h1.1; simpa using this
    rcases h1.2 with ⟨hv, h0⟩ | ⟨g, c, cur, hv, hb, hg, r⟩
    · omega
    · simp only [Value.slice.injEq] at hv
      obtain ⟨rfl, -, rfl⟩ := hv
      have hc := h1.cellAt j (by omega)
      refine ⟨g, 0, vs.getD j undef, rfl, (h1.lt g rfl).2, ?_, s.own_rd (h2 j hj)⟩
      rw [Nat.zero_add, hc, List.getD_eq_getElem?_getD, List.getElem?_eq_getElem (by omega)]
      rfl
theorem spL_mark_length (E : TypeId) (s : Sp α) (nul : α) (k : Int) (xs : List α) : ((spL E s nul).mark k xs).length = xs.length := by simp [spL]
theorem spL_mark_get (E : TypeId) (s : Sp α) (nul : α) (k : Int) (xs : List α) (j : Nat) (h : j < xs.length) : ((spL E s nul).mark k xs).getD j nul = markAt s nul k xs j := by simp [spL, h]
theorem spL_row {E : TypeId} {s : Sp α} {nul : α} {w : World} {A : Option Addr} {n cap : Nat} {xs : List α} (h : (spL E s nul).rd w (.slice A n cap) xs) {j : Nat} (hj : j < xs.length) :
    ∃ g o u, A = some ⟨g, o, none⟩ ∧ g < w.heap.size ∧ w.cell? ⟨g, o + j, none⟩ = some u ∧ s.rd w u (xs.getD j nul) := by
  obtain ⟨A', cap', e, _, h3⟩ := h
  simp only [Value.slice.injEq] at e
  obtain ⟨rfl, _, rfl⟩ := e
  exact h3 j hj
/-- Owned, with the rows ahead of j turned into what they are to be. -/
def OwnTo (E : TypeId) (s : Sp α) (nul : α) (w : World) (S : Nat → Prop) (v : Value) (xs : List α) (tgt : Nat → α) (j : Nat) : Prop :=
  ∃ (vs : List Value) (T : Nat → Nat → Prop), w.ownsRow 0 E 1 v xs.length vs ∧ (∀ i, i < xs.length → s.own w (T i) (vs.getD i undef) (if i < j then tgt i else xs.getD i nul)) ∧ (∀ i j, i < j → j < xs.length → ∀ k, T i k → ¬ T j k) ∧
    (∀ j, j < xs.length → ∀ k, T j k → S k ∧ v.ownBlock ≠ some k) ∧ (∀ k, v.ownBlock = some k → S k) ∧ ∀ k, S k → k < w.heap.size
theorem OwnTo.start {E : TypeId} {s : Sp α} {nul : α} {w : World} {S : Nat → Prop} {v : Value} {xs : List α} {tgt : Nat → α} (h : (spL E s nul).own w S v xs) : OwnTo E s nul w S v xs tgt 0 := by
  obtain ⟨vs, T, h1, h2, h3, h4, h5, h6⟩ := h
  exact ⟨vs, T, h1, fun i hi => by simpa using h2 i hi, h3, h4, h5, h6⟩
theorem OwnTo.done {E : TypeId} {s : Sp α} {nul : α} {w : World} {S : Nat → Prop} {v : Value} {xs ys : List α} {tgt : Nat → α} (h : OwnTo E s nul w S v xs tgt xs.length) (hl : ys.length = xs.length) (hy : ∀ j, j < xs.length → ys.getD j nul = tgt j) : (spL E s nul).own w S v ys := by
  obtain ⟨vs, T, h1, h2, h3, h4, h5, h6⟩ := h
  refine ⟨vs, T, by rw [hl]; exact h1, fun j hj => ?_, fun i j hij hj => h3 i j hij (by omega), fun j hj => h4 j (by omega), h5, h6⟩
  rw [hl] at hj
  rw [hy j hj]
  have := h2 j hj
  rwa [if_pos hj] at this
/-- The row at j, and how it goes on behind its mark. -/
theorem OwnTo.at_ {E : TypeId} {s : Sp α} {nul : α} {w : World} {S : Nat → Prop} {g c n cap : Nat} {xs : List α} {tgt : Nat → α} {j : Nat} {A : Option Addr} (h : OwnTo E s nul w S (.slice A n cap) xs tgt j) (hj : j < xs.length) :
    ∃ g u Tj, A = some ⟨g, 0, none⟩ ∧ w.cell? ⟨g, j, none⟩ = some u ∧ s.own w Tj u (xs.getD j nul) ∧ (∀ k, Tj k → S k) ∧
      ∀ w', s.own w' Tj u (tgt j) → ChgS Tj w w' → OwnTo E s nul w' S (.slice A n cap) xs tgt (j + 1) := by
  obtain ⟨vs, T, h1, h2, h3, h4, h5, h6⟩ := h
  have hvl : vs.length = xs.length := by have := h1.1; simpa using this
  rcases h1.2 with ⟨hv, h0⟩ | ⟨g, c, cur, hv, hb, hg, r⟩
  · omega
  · simp only [Value.slice.injEq] at hv
    obtain ⟨rfl, rfl, rfl⟩ := hv
    have hc := h1.cellAt j (by omega)
    refine ⟨g, vs.getD j undef, T j, rfl, ?_, ?_, fun k hk => (h4 j hj k hk).1, fun w' hw hch => ?_⟩
    · rw [hc, List.getD_eq_getElem?_getD, List.getElem?_eq_getElem (by omega)]; rfl
    · have := h2 j hj
      rwa [if_neg (by omega)] at this
    · refine ⟨vs, T, ownsRow_keep h1 fun q hq => hch.block q (h6 q (h5 q hq)) (fun ht => (h4 j hj q ht).2 hq), fun i hi => ?_, h3, h4, h5, fun q hq => Nat.lt_of_lt_of_le (h6 q hq) hch.size⟩
      by_cases hij : i = j
      · subst hij
        rw [if_pos (by omega)]
        exact hw
      · have e : (if i < j + 1 then tgt i else xs.getD i nul) = if i < j then tgt i else xs.getD i nul := by
          by_cases h1 : i < j
          · rw [if_pos h1, if_pos (by omega)]
          · rw [if_neg h1, if_neg (by omega)]
        rw [e]
        refine s.own_chg (h2 i hi) hch fun q hq => ?_
        rcases Nat.lt_or_gt_of_ne hij with h | h
        · exact h3 i j h hj q hq
        · exact fun hTj => h3 j i h hi q hTj hq
/-- A copy of the first j rows in a new row of n. -/
def CopyTo (E : TypeId) (s : Sp α) (nul : α) (B : Nat) (w : World) (v : Value) (xs : List α) (j : Nat) : Prop :=
  ∃ (vs : List Value) (T : Nat → Nat → Prop), w.ownsRow B E 1 v xs.length vs ∧ (∀ i, i < j → s.own w (T i) (vs.getD i undef) (xs.getD i nul)) ∧ (∀ i j', i < j' → j' < j → ∀ k, T i k → ¬ T j' k) ∧ (∀ i, i < j → ∀ k, T i k → B < k)
theorem CopyTo.done {E : TypeId} {s : Sp α} {nul : α} {B : Nat} {w : World} {n cap : Nat} {xs : List α} (h : CopyTo E s nul B w (.slice (some ⟨B, 0, none⟩) n cap) xs xs.length) :
    (spL E s nul).own w (fun k => B ≤ k ∧ k < w.heap.size) (.slice (some ⟨B, 0, none⟩) n cap) xs := by
  obtain ⟨vs, T, h1, h2, h3, h4⟩ := h
  refine ⟨vs, T, ownsRow_base h1 (Nat.zero_le _), h2, h3, fun j hj k hk => ⟨⟨by have := h4 j hj k hk; omega, s.own_lt (h2 j hj) hk⟩, fun e => ?_⟩, fun k hk => ?_, fun k hk => hk.2⟩
  · have := h4 j hj k hk
    simp [Value.ownBlock] at e
    omega
  · have := World.ownsRow.lt h1 k hk
    exact ⟨this.1, this.2⟩
/-- The next row is copied and stored. -/
theorem CopyTo.step {E : TypeId} {s : Sp α} {nul : α} {B : Nat} {w w2 : World} {n cap : Nat} {xs : List α} {j : Nat} {u : Value} {S : Nat → Prop} (h : CopyTo E s nul B w (.slice (some ⟨B, 0, none⟩) n cap) xs j) (hj : j < xs.length)
    (hb : Below w.heap.size w w2) (ho : s.own w2 S u (xs.getD j nul)) (hS : ∀ k, S k → w.heap.size ≤ k) :
    (∃ ov, w2.cell? ⟨B, j, none⟩ = some ov) ∧ w2.frozen? ⟨B, j, none⟩ = false ∧ CopyTo E s nul B (w2.setCell ⟨B, j, none⟩ u) (.slice (some ⟨B, 0, none⟩) n cap) xs (j + 1) ∧ w2.grownBy (w2.setCell ⟨B, j, none⟩ u) (some B) ∧ B < w.heap.size := by
  obtain ⟨vs, T, h1, h2, h3, h4⟩ := h
  have hvl : vs.length = xs.length := by have := h1.1; simpa using this
  have hB := (World.ownsRow.lt h1 B rfl).2
  have o2 := World.ownsRow.kept (row := none) h1 ⟨hb.os, hb.tape, hb.output, hb.size, fun k hk _ => hb.block k hk⟩ (.inr (by simp [Value.ownBlock]))
  obtain ⟨A', c', hv, hm⟩ := ownsRow_cap h1
  simp only [Value.slice.injEq] at hv
  obtain ⟨rfl, rfl, rfl⟩ := hv
  obtain ⟨st1, st2⟩ := o2.stored j u
  refine ⟨⟨vs[j], by rw [o2.cellAt j (by omega)]; exact List.getElem?_eq_getElem (by omega)⟩, o2.frozenAt j, ⟨vs.set j u, fun i => if i = j then S else T i, st1, fun i hi => ?_, fun i j' hij hj' k => ?_, fun i hi k => ?_⟩, st2, hB⟩
  · by_cases hij : i = j
    · subst hij
      have e : (vs.set i u).getD i undef = u := by rw [List.getD_eq_getElem?_getD, List.getElem?_set_self (by omega)]; rfl
      rw [e]
      show s.own _ (if i = i then S else T i) u _
      rw [if_pos rfl]
      exact s.own_keep ho fun k hk => st2.block k (s.own_lt ho hk) (by have := hS k hk; simp; omega)
    · have e : (vs.set j u).getD i undef = vs.getD i undef := by rw [List.getD_eq_getElem?_getD, List.getElem?_set_ne (by omega), ← List.getD_eq_getElem?_getD]
      rw [e]
      show s.own _ (if i = j then S else T i) _ _
      rw [if_neg hij]
      have hi' : i < j := by omega
      have o := s.own_below (h2 i hi') hb
      exact s.own_keep o fun k hk => st2.block k (s.own_lt o hk) (by have := h4 i hi' k hk; simp; omega)
  · show (if i = j then S else T i) k → ¬ (if j' = j then S else T j') k
    rw [if_neg (by omega : ¬ i = j)]
    by_cases h : j' = j
    · rw [if_pos h]
      intro hT hSk
      have := s.own_lt (h2 i (by omega)) hT
      have := hS k hSk
      omega
    · rw [if_neg h]
      exact h3 i j' hij (by omega) k
  · show (if i = j then S else T i) k → B < k
    by_cases h : i = j
    · rw [if_pos h]
      intro hSk
      have := hS k hSk
      omega
    · rw [if_neg h]
      exact h4 i (by omega) k

/-- What owns nothing: the nil slice, and an empty one. -/
theorem spL_nil (E : TypeId) (s : Sp α) (nul : α) (w : World) : (spL E s nul).own w (fun _ => False) (.slice none 0 0) [] :=
  ⟨[], fun _ _ => False, World.ownsRow_nil _ _ _ _, fun j hj => by simp at hj, fun i j _ hj => by simp at hj, fun j hj => by simp at hj, fun k hk => by simp [Value.ownBlock] at hk, fun k hk => hk.elim⟩
theorem spL_empty (E : TypeId) (s : Sp α) (nul : α) (w : World) : (spL E s nul).own (w.alloc (.cells #[] E)) (fun k => k = w.heap.size) (.slice (some ⟨w.heap.size, 0, none⟩) 0 0) [] := by
  have h : (w.alloc (.cells #[] E)).ownsRow 0 E 1 (.slice (some ⟨w.heap.size, 0, none⟩) 0 0) 0 [] := World.ownsRow_lit w #[] 0 (Nat.zero_le _) (by unfold maxLen; omega) rfl
  exact ⟨[], fun _ _ => False, h, fun j hj => by simp at hj, fun i j _ hj => by simp at hj, fun j hj => by simp at hj, fun k hk => by simp [Value.ownBlock] at hk; exact hk.symm, fun k hk => by subst hk; simp⟩
/-- One more row behind the others. -/
theorem spL_push {E : TypeId} {s : Sp α} {nul : α} {w : World} {S T : Nat → Prop} {v u : Value} {xs : List α} {x : α} (hv : (spL E s nul).own w S v xs) (hu : s.own w T u x) (hd : ∀ k, S k → ¬ T k) :
    ∃ vs, w.ownsRow 0 E 1 v xs.length vs ∧ ∀ (w1 w2 : World) (v' : Value) (g : Nat), Below w.heap.size w w1 → w2.ownsRow 0 E 1 v' (xs.length + 1) (vs ++ [u]) → w1.grownBy w2 v.ownBlock → v'.ownBlock = some g → (v.ownBlock = some g ∨ w.heap.size ≤ g) → g < w2.heap.size →
      (spL E s nul).own w2 (fun k => S k ∨ T k ∨ k = g) v' (xs ++ [x]) := by
  obtain ⟨vs, P, h1, h2, h3, h4, h5, h6⟩ := hv
  refine ⟨vs, h1, fun w1 w2 v' g hb ho hg hg1 hg2 hg3 => ?_⟩
  have hvl : vs.length = xs.length := by have := h1.1; simpa using this
  have hT : ∀ k, T k → k < w.heap.size := fun k hk => s.own_lt hu hk
  have same : ∀ k, k < w.heap.size → some k ≠ v.ownBlock → w2.heap[k]? = w.heap[k]? := fun k hk hn => (hg.block k (by have := hb.size; omega) hn).trans (hb.block k hk)
  refine ⟨vs ++ [u], fun j => if j < xs.length then P j else T, by simpa using ho, fun j hj => ?_, fun i j hij hj k hki => ?_, fun j hj k hk => ?_, fun k hk => ?_, fun k hk => ?_⟩
  · simp only [List.length_append, List.length_singleton] at hj
    by_cases hlt : j < xs.length
    · have e : (vs ++ [u]).getD j undef = vs.getD j undef := by rw [List.getD_eq_getElem?_getD, List.getElem?_append_left (by omega), ← List.getD_eq_getElem?_getD]
      have e2 : (xs ++ [x]).getD j nul = xs.getD j nul := by rw [List.getD_eq_getElem?_getD, List.getElem?_append_left (by omega), ← List.getD_eq_getElem?_getD]
      rw [e, e2]
      show s.own w2 (if j < xs.length then P j else T) _ _
      rw [if_pos hlt]
      exact s.own_keep (h2 j hlt) fun k hk => same k (s.own_lt (h2 j hlt) hk) (fun e => (h4 j hlt k hk).2 e.symm)
    · have hj' : j = xs.length := by omega
      have e : (vs ++ [u]).getD j undef = u := by rw [List.getD_eq_getElem?_getD, List.getElem?_append_right (by omega), hj', hvl]; simp
      have e2 : (xs ++ [x]).getD j nul = x := by rw [List.getD_eq_getElem?_getD, List.getElem?_append_right (by omega), hj']; simp
      rw [e, e2]
      show s.own w2 (if j < xs.length then P j else T) _ _
      rw [if_neg hlt]
      exact s.own_keep hu fun k hk => same k (hT k hk) (fun e => hd k (h5 k e.symm) hk)
  · simp only [List.length_append, List.length_singleton] at hj
    have hi : i < xs.length := by omega
    change (if i < xs.length then P i else T) k at hki
    rw [if_pos hi] at hki
    show ¬ (if j < xs.length then P j else T) k
    by_cases hlt : j < xs.length
    · rw [if_pos hlt]; exact h3 i j hij hlt k hki
    · rw [if_neg hlt]; exact hd k (h4 i hi k hki).1
  · simp only [List.length_append, List.length_singleton] at hj
    change (if j < xs.length then P j else T) k at hk
    rw [hg1]
    by_cases hlt : j < xs.length
    · rw [if_pos hlt] at hk
      refine ⟨.inl (h4 j hlt k hk).1, fun e => ?_⟩
      obtain rfl : g = k := by simpa using e
      rcases hg2 with h | h
      · exact (h4 j hlt g hk).2 h
      · have := h6 g (h4 j hlt g hk).1; omega
    · rw [if_neg hlt] at hk
      refine ⟨.inr (.inl hk), fun e => ?_⟩
      obtain rfl : g = k := by simpa using e
      rcases hg2 with h | h
      · exact hd g (h5 g h) hk
      · have := hT g hk; omega
  · rw [hg1] at hk
    exact .inr (.inr (by simpa using hk.symm))
  · have hz : w.heap.size ≤ w2.heap.size := Nat.le_trans hb.size hg.size
    rcases hk with hk | hk | hk
    · have := h6 k hk; omega
    · have := hT k hk; omega
    · omega
end Go.Proofs.Ytggkoihlmijacaa
