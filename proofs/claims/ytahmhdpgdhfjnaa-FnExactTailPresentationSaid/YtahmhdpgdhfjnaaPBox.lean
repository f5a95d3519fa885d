/- A presentation of new memory in a box: what stays of it when a part is replaced. -/
import Derived.Test.YtahmhdpgdhfjnaaShPres
import Derived.Test.YtahmhdpgdhfjnaaStep
import Derived.Test.YtahmhdpgdhfjnaaRow
namespace Go.Proofs.Ytahmhdpgdhfjnaa
open Go.RowKit
set_option linter.unusedVariables false
set_option linter.unusedSimpArgs false

theorem own_pres {w : World} {O : List Int} {W : List (List Int)} {J : List (List (List Int))} {v0 v1 v2 : Value} {S0 S1 S2 : Nat → Prop} (o0 : spI.own w S0 v0 O) (o1 : spII.own w S1 v1 W) (o2 : spIII.own w S2 v2 J)
    (d01 : ∀ k, S0 k → ¬ S1 k) (d02 : ∀ k, S0 k → ¬ S2 k) (d12 : ∀ k, S1 k → ¬ S2 k) : spPres.own w (fun k => S0 k ∨ S1 k ∨ S2 k) (.agg #[v0, v1, v2]) ⟨O, W, J⟩ :=
  ⟨v0, v1, v2, S0, S1, S2, rfl, o0, o1, o2, d01, d02, d12, fun k h => .inl h, fun k h => .inr (.inl h), fun k h => .inr (.inr h), fun k h => by
    rcases h with h | h | h
    · exact spI.own_lt o0 h
    · exact spII.own_lt o1 h
    · exact spIII.own_lt o2 h⟩
structure PBox (B : Nat) (w : World) (b : Nat) (O : List Int) (W : List (List Int)) (J : List (List (List Int))) (v0 v1 v2 : Value) (S0 S1 S2 : Nat → Prop) : Prop where
  box : Blk w b [v0, v1, v2] 28
  o0 : spI.own w S0 v0 O
  o1 : spII.own w S1 v1 W
  o2 : spIII.own w S2 v2 J
  d01 : ∀ k, S0 k → ¬ S1 k
  d02 : ∀ k, S0 k → ¬ S2 k
  d12 : ∀ k, S1 k → ¬ S2 k
  s0 : ∀ k, S0 k → B ≤ k ∧ k ≠ b
  s1 : ∀ k, S1 k → B ≤ k ∧ k ≠ b
  s2 : ∀ k, S2 k → B ≤ k ∧ k ≠ b
  hB : B ≤ b
section
variable {B b : Nat} {w w' : World} {O : List Int} {W : List (List Int)} {J : List (List (List Int))} {v0 v1 v2 : Value} {S0 S1 S2 : Nat → Prop}
theorem PBox.below (h : PBox B w b O W J v0 v1 v2 S0 S1 S2) (hb : Below w.heap.size w w') : PBox B w' b O W J v0 v1 v2 S0 S1 S2 :=
  { h with box := h.box.below hb, o0 := spI.own_below h.o0 hb, o1 := spII.own_below h.o1 hb, o2 := spIII.own_below h.o2 hb }
theorem PBox.own (h : PBox B w b O W J v0 v1 v2 S0 S1 S2) : spPres.own w (fun k => S0 k ∨ S1 k ∨ S2 k) (.agg #[v0, v1, v2]) ⟨O, W, J⟩ := own_pres h.o0 h.o1 h.o2 h.d01 h.d02 h.d12
theorem PBox.base (h : PBox B w b O W J v0 v1 v2 S0 S1 S2) : ∀ k, (S0 k ∨ S1 k ∨ S2 k) → B ≤ k ∧ k ≠ b := fun k hk => by
  rcases hk with hk | hk | hk
  · exact h.s0 k hk
  · exact h.s1 k hk
  · exact h.s2 k hk
theorem PBox.putW {w7 : World} {W' : List (List Int)} {v7 : Value} {S7 : Nat → Prop} (h : PBox B w b O W J v0 v1 v2 S0 S1 S2) (ch : ChgS S1 w w7) (own7 : spII.own w7 S7 v7 W') (hS7 : ∀ k, S7 k → S1 k ∨ w.heap.size ≤ k) :
    PBox B (w7.setCell ⟨b, 1, none⟩ v7) b O W' J v0 v7 v2 S0 S7 S2 := by
  have hb := h.hB
  have hlt := h.box.lt
  have n7 : ¬ S7 b := fun hh => by
    rcases hS7 b hh with h1 | h1
    · exact (h.s1 b h1).2 rfl
    · omega
  refine ⟨?_, ?_, ?_, ?_, ?_, h.d02, ?_, h.s0, ?_, h.s2, hb⟩
  · have := (h.box.chg ch (fun hh => (h.s1 b hh).2 rfl)).set 1 v7
    simpa using this
  · exact spI.own_set (spI.own_chg h.o0 ch h.d01) (p := ⟨b, 1, none⟩) (fun hh => (h.s0 b hh).2 rfl) _
  · exact spII.own_set own7 (p := ⟨b, 1, none⟩) n7 _
  · exact spIII.own_set (spIII.own_chg h.o2 ch fun k h1 h2 => h.d12 k h2 h1) (p := ⟨b, 1, none⟩) (fun hh => (h.s2 b hh).2 rfl) _
  · intro k h1 h2
    rcases hS7 k h2 with h3 | h3
    · exact h.d01 k h1 h3
    · have := spI.own_lt h.o0 h1; omega
  · intro k h1 h2
    rcases hS7 k h1 with h3 | h3
    · exact h.d12 k h3 h2
    · have := spIII.own_lt h.o2 h2; omega
  · intro k h1
    rcases hS7 k h1 with h3 | h3
    · exact h.s1 k h3
    · omega
theorem PBox.putJ {w7 : World} {J' : List (List (List Int))} {v7 : Value} {S7 : Nat → Prop} (h : PBox B w b O W J v0 v1 v2 S0 S1 S2) (ch : ChgS S2 w w7) (own7 : spIII.own w7 S7 v7 J') (hS7 : ∀ k, S7 k → S2 k ∨ w.heap.size ≤ k) :
    PBox B (w7.setCell ⟨b, 2, none⟩ v7) b O W J' v0 v1 v7 S0 S1 S7 := by
  have hb := h.hB
  have hlt := h.box.lt
  have n7 : ¬ S7 b := fun hh => by
    rcases hS7 b hh with h1 | h1
    · exact (h.s2 b h1).2 rfl
    · omega
  refine ⟨?_, ?_, ?_, ?_, h.d01, ?_, ?_, h.s0, h.s1, ?_, hb⟩
  · have := (h.box.chg ch (fun hh => (h.s2 b hh).2 rfl)).set 2 v7
    simpa using this
  · exact spI.own_set (spI.own_chg h.o0 ch h.d02) (p := ⟨b, 2, none⟩) (fun hh => (h.s0 b hh).2 rfl) _
  · exact spII.own_set (spII.own_chg h.o1 ch h.d12) (p := ⟨b, 2, none⟩) (fun hh => (h.s1 b hh).2 rfl) _
  · exact spIII.own_set own7 (p := ⟨b, 2, none⟩) n7 _
  · intro k h1 h2
    rcases hS7 k h2 with h3 | h3
    · exact h.d02 k h1 h3
    · have := spI.own_lt h.o0 h1; omega
  · intro k h1 h2
    rcases hS7 k h2 with h3 | h3
    · exact h.d12 k h1 h3
    · have := spII.own_lt h.o1 h1; omega
  · intro k h1
    rcases hS7 k h1 with h3 | h3
    · exact h.s2 k h3
    · omega
theorem PBox.putJ' {w7 : World} {J' : List (List (List Int))} {v7 : Value} {S7 : Nat → Prop} (h : PBox B w b O W J v0 v1 v2 S0 S1 S2) (ch : ChgS S2 w w7) (own7 : spIII.own w7 S7 v7 J') (hS7 : ∀ k, S7 k → S2 k ∨ (¬ S0 k ∧ ¬ S1 k ∧ B ≤ k ∧ k ≠ b)) :
    PBox B (w7.setCell ⟨b, 2, none⟩ v7) b O W J' v0 v1 v7 S0 S1 S7 := by
  have hb := h.hB
  have n7 : ¬ S7 b := fun hh => by
    rcases hS7 b hh with h1 | h1
    · exact (h.s2 b h1).2 rfl
    · exact h1.2.2.2 rfl
  refine ⟨?_, ?_, ?_, ?_, h.d01, ?_, ?_, h.s0, h.s1, ?_, hb⟩
  · have := (h.box.chg ch (fun hh => (h.s2 b hh).2 rfl)).set 2 v7
    simpa using this
  · exact spI.own_set (spI.own_chg h.o0 ch h.d02) (p := ⟨b, 2, none⟩) (fun hh => (h.s0 b hh).2 rfl) _
  · exact spII.own_set (spII.own_chg h.o1 ch h.d12) (p := ⟨b, 2, none⟩) (fun hh => (h.s1 b hh).2 rfl) _
  · exact spIII.own_set own7 (p := ⟨b, 2, none⟩) n7 _
  · intro k h1 h2
    rcases hS7 k h2 with h3 | h3
    · exact h.d02 k h1 h3
    · exact h3.1 h1
  · intro k h1 h2
    rcases hS7 k h2 with h3 | h3
    · exact h.d12 k h1 h3
    · exact h3.2.1 h1
  · intro k h1
    rcases hS7 k h1 with h3 | h3
    · exact h.s2 k h3
    · exact ⟨h3.2.2.1, h3.2.2.2⟩
/-- A row replaced by one in new memory. -/
theorem PBox.row {w2 : World} {g n c j : Nat} {u : Value} {x : List Int} {T : Nat → Prop} (h : PBox B w b O W J v0 (.slice (some ⟨g, 0, none⟩) n c) v2 S0 S1 S2) (hj : j < W.length) (hb : Below w.heap.size w w2) (hu : spI.own w2 T u x) (hT : ∀ k, T k → w.heap.size ≤ k) :
    PBox B (w2.setCell ⟨g, j, none⟩ u) b O (W.set j x) J v0 (.slice (some ⟨g, 0, none⟩) n c) v2 S0 (fun k => S1 k ∨ T k) S2 := by
  have hlt := h.box.lt
  have hB := h.hB
  have hg : S1 g := by obtain ⟨_, _, _, _, _, _, h5, _⟩ := h.o1; exact h5 g rfl
  have hgb := h.s1 g hg
  obtain ⟨-, -, o1, -⟩ := spL_put h.o1 hj hb hu hT
  refine ⟨?_, ?_, o1, ?_, ?_, h.d02, ?_, h.s0, ?_, h.s2, hB⟩
  · exact (h.box.below hb).other (p := ⟨g, j, none⟩) (fun e => hgb.2 e.symm) u
  · exact spI.own_set (spI.own_below h.o0 hb) (p := ⟨g, j, none⟩) (fun hh => h.d01 g hh hg) u
  · exact spIII.own_set (spIII.own_below h.o2 hb) (p := ⟨g, j, none⟩) (fun hh => h.d12 g hg hh) u
  · intro k h1 h2
    rcases h2 with h3 | h3
    · exact h.d01 k h1 h3
    · have := spI.own_lt h.o0 h1; have := hT k h3; omega
  · intro k h1 h2
    rcases h1 with h3 | h3
    · exact h.d12 k h3 h2
    · have := spIII.own_lt h.o2 h2; have := hT k h3; omega
  · intro k h1
    rcases h1 with h3 | h3
    · exact h.s1 k h3
    · have := hT k h3; omega
/-- A change within the powers; within the conjugates. -/
theorem PBox.inW {w2 : World} {W' : List (List Int)} (h : PBox B w b O W J v0 v1 v2 S0 S1 S2) (ch : ChgS S1 w w2) (o1 : spII.own w2 S1 v1 W') : PBox B w2 b O W' J v0 v1 v2 S0 S1 S2 :=
  { h with box := h.box.chg ch (fun hh => (h.s1 b hh).2 rfl), o0 := spI.own_chg h.o0 ch h.d01, o1 := o1, o2 := spIII.own_chg h.o2 ch fun k h1 h2 => h.d12 k h2 h1 }
theorem PBox.inJ {w2 : World} {J' : List (List (List Int))} (h : PBox B w b O W J v0 v1 v2 S0 S1 S2) (ch : ChgS S2 w w2) (o2 : spIII.own w2 S2 v2 J') : PBox B w2 b O W J' v0 v1 v2 S0 S1 S2 :=
  { h with box := h.box.chg ch (fun hh => (h.s2 b hh).2 rfl), o0 := spI.own_chg h.o0 ch h.d02, o1 := spII.own_chg h.o1 ch h.d12, o2 := o2 }
/-- A presentation of new memory, stored into a new box. -/
theorem PBox.of {v : Value} {S : Nat → Prop} {x : Pres} (h : spPres.own w S v x) (hS : ∀ k, S k → B ≤ k) (hB : B ≤ w.heap.size) : ∃ v0 v1 v2 S0 S1 S2, v = .agg #[v0, v1, v2] ∧ PBox B (w.alloc (.cells #[v0, v1, v2] 28)) w.heap.size x.O x.W x.J v0 v1 v2 S0 S1 S2 := by
  obtain ⟨v0, v1, v2, T0, T1, T2, rfl, o0, o1, o2, d01, d02, d12, s0, s1, s2, hl⟩ := h
  exact ⟨v0, v1, v2, T0, T1, T2, rfl, Blk.new w _ _, spI.own_alloc o0 _, spII.own_alloc o1 _, spIII.own_alloc o2 _, d01, d02, d12, fun k hk => ⟨hS k (s0 k hk), by have := hl k (s0 k hk); omega⟩, fun k hk => ⟨hS k (s1 k hk), by have := hl k (s1 k hk); omega⟩, fun k hk => ⟨hS k (s2 k hk), by have := hl k (s2 k hk); omega⟩, hB⟩
/-- The values are slices. -/
theorem PBox.forms (h : PBox B w b O W J v0 v1 v2 S0 S1 S2) : (∃ A c, v0 = .slice A O.length c) ∧ (∃ A c, v1 = .slice A W.length c) ∧ ∃ A c, v2 = .slice A J.length c := by
  refine ⟨?_, ?_, ?_⟩
  · obtain ⟨A, c, e, -⟩ := spI.own_rd h.o0; exact ⟨A, c, e⟩
  · obtain ⟨A, c, e, -⟩ := spII.own_rd h.o1; exact ⟨A, c, e⟩
  · obtain ⟨A, c, e, -⟩ := spIII.own_rd h.o2; exact ⟨A, c, e⟩
end
end Go.Proofs.Ytahmhdpgdhfjnaa
