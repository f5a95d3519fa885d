/- Row, PBox, L11N, L11O, Pk, Zb, L13R, L13S in one. -/
import Derived.Test.YtahmhdpgdhfjnaaKB
import Derived.Test.YtahmhdpgdhfjnaaShPres
import Derived.Test.YtahmhdpgdhfjnaaStep
import Derived.Test.YtahmhdpgdhfjnaaL11M
import Derived.Test.YtahmhdpgdhfjnaaL11F
import Derived.Test.YtahmhdpgdhfjnaaL11G
import Derived.Handy
namespace Go.Proofs.Ytahmhdpgdhfjnaa
open Go.RowKit
set_option linter.unusedVariables false
set_option linter.unusedSimpArgs false

theorem spL_in {α : Type} {E : TypeId} {s : Sp α} {nul : α} {w : World} {S : Nat → Prop} {v : Value} {xs : List α} (h : (spL E s nul).own w S v xs) {j : Nat} (hj : j < xs.length) :
    ∃ g c u T, v = .slice (some ⟨g, 0, none⟩) xs.length c ∧ S g ∧ g < w.heap.size ∧ w.cell? ⟨g, j, none⟩ = some u ∧ w.frozen? ⟨g, j, none⟩ = false ∧ s.own w T u (xs.getD j nul) ∧ (∀ k, T k → S k) ∧ ¬ T g ∧
      (∀ (w2 : World) (x' : α), ChgS T w w2 → s.own w2 T u x' → (spL E s nul).own w2 S v (xs.set j x')) := by
  obtain ⟨vs, T, h1, h2, h3, h4, h5, h6⟩ := h
  have hvl : vs.length = xs.length := by have := h1.1; simpa using this
  have h1' := h1
  rcases h1.2 with ⟨hv, h0⟩ | ⟨g, c, cur, hv, hb, hg, r⟩
  · omega
  · subst hv
    have hS := h5 g rfl
    have hgT : ∀ i, i < xs.length → ¬ T i g := fun i hi hT => (h4 i hi g hT).2 rfl
    refine ⟨g, c, vs.getD j undef, T j, rfl, hS, h6 g hS, ?_, h1'.frozenAt j, h2 j hj, fun k hk => (h4 j hj k hk).1, hgT j hj, fun w2 x' hc hx => ?_⟩
    · rw [h1'.cellAt j (by omega), List.getD_eq_getElem?_getD, List.getElem?_eq_getElem (by omega)]
      rfl
    · refine ⟨vs, T, by rw [List.length_set]; exact ownsRow_keep h1' fun k e => hc.block k (h6 k (h5 k e)) (fun hT => by
          have e' : some g = some k := e
          simp only [Option.some.injEq] at e'
          subst e'
          exact hgT j hj hT), fun i hi => ?_, fun i k hik hk => ?_, fun i hi => ?_, h5, fun k hk => Nat.lt_of_lt_of_le (h6 k hk) hc.size⟩
      · rw [List.length_set] at hi
        rw [getD_set _ _ _ _ _ hj]
        by_cases e : i = j
        · rw [if_pos e, e]; exact hx
        · rw [if_neg e]
          refine s.own_chg (h2 i hi) hc fun k h7 h8 => ?_
          rcases Nat.lt_or_gt_of_ne e with h9 | h9
          · exact h3 i j h9 hj k h7 h8
          · exact h3 j i h9 hi k h8 h7
      · rw [List.length_set] at hk
        exact h3 i k hik hk
      · rw [List.length_set] at hi
        exact h4 i hi
theorem spI_cellAt {w : World} {S : Nat → Prop} {v : Value} {x : List Int} (h : spI.own w S v x) {j : Nat} (hj : j < x.length) :
    ∃ g c, v = .slice (some ⟨g, 0, none⟩) x.length c ∧ S g ∧ g < w.heap.size ∧ w.cell? ⟨g, j, none⟩ = some (.int .i64 (x.getD j 0)) ∧ w.frozen? ⟨g, j, none⟩ = false := by
  obtain ⟨h1, h2, h3⟩ := h
  rcases h1.2 with ⟨hv, h0⟩ | ⟨g, c, cur, hv, hb, hg, r⟩
  · omega
  · have hS := h2 g (by rw [hv]; rfl)
    subst hv
    exact ⟨g, c, rfl, hS, h3 g hS, by rw [h1.cellAt j (by simpa using hj)]; simp [hj], h1.frozenAt _⟩
theorem spI_setAt {w : World} {S : Nat → Prop} {g n c : Nat} {x : List Int} (h : spI.own w S (.slice (some ⟨g, 0, none⟩) n c) x) {j : Nat} (hj : j < x.length) (y : Int) :
    spI.own (w.setCell ⟨g, j, none⟩ (.int .i64 y)) S (.slice (some ⟨g, 0, none⟩) n c) (x.set j y) := by
  obtain ⟨h1, h2, h3⟩ := h
  obtain rfl : n = x.length := by
    obtain ⟨A', c', hv, _⟩ := ownsRow_cap h1
    simp only [Value.slice.injEq] at hv
    exact hv.2.1
  obtain ⟨st1, gr1⟩ := h1.stored j (.int .i64 y)
  refine ⟨?_, h2, fun k hk => by have := h3 k hk; simpa using this⟩
  rw [List.length_set, List.map_set]
  exact st1
end Go.Proofs.Ytahmhdpgdhfjnaa
namespace Go.Proofs.Ytahmhdpgdhfjnaa
open Go.RowKit
set_option linter.unusedVariables false
set_option linter.unusedSimpArgs false

theorem own_pres {w : World} {O : List Int} {W : List (List Int)} {J : List (List (List Int))} {v0 v1 v2 : Value} {S0 S1 S2 : Nat → Prop} (o0 : spI.own w S0 v0 O) (o1 : spII.own w S1 v1 W) (o2 : spIII.own w S2 v2 J)
    (d01 : ∀ k, S0 k → ¬ S1 k) (d02 : ∀ k, S0 k → ¬ S2 k) (d12 : ∀ k, S1 k → ¬ S2 k) : spPres.own w (fun k => S0 k ∨ S1 k ∨ S2 k) (.agg #[v0, v1, v2]) ⟨O, W, J⟩ :=
  ⟨v0, v1, v2, S0, S1, S2, rfl, o0, o1, o2, d01, d02, d12, fun k h => .inl h, fun k h => .inr (.inl h), fun k h => .inr (.inr h), fun k h => by
    rcases h with h | h | h
    · exact spI.own_lt o0 h
    · exact spII.own_lt o1 h
    · exact spIII.own_lt o2 h⟩
structure PBox (B : Nat) (w : World) (b : Nat) (O : List Int) (W : List (List Int)) (J : List (List (List Int))) (v0 v1 v2 : Value) (S0 S1 S2 : Nat → Prop) : Prop where
  box : Blk w b [v0, v1, v2] 28
  o0 : spI.own w S0 v0 O
  o1 : spII.own w S1 v1 W
  o2 : spIII.own w S2 v2 J
  d01 : ∀ k, S0 k → ¬ S1 k
  d02 : ∀ k, S0 k → ¬ S2 k
  d12 : ∀ k, S1 k → ¬ S2 k
  s0 : ∀ k, S0 k → B ≤ k ∧ k ≠ b
  s1 : ∀ k, S1 k → B ≤ k ∧ k ≠ b
  s2 : ∀ k, S2 k → B ≤ k ∧ k ≠ b
  hB : B ≤ b
section
variable {B b : Nat} {w w' : World} {O : List Int} {W : List (List Int)} {J : List (List (List Int))} {v0 v1 v2 : Value} {S0 S1 S2 : Nat → Prop}
theorem PBox.below (h : PBox B w b O W J v0 v1 v2 S0 S1 S2) (hb : Below w.heap.size w w') : PBox B w' b O W J v0 v1 v2 S0 S1 S2 :=
  { h with box := h.box.below hb, o0 := spI.own_below h.o0 hb, o1 := spII.own_below h.o1 hb, o2 := spIII.own_below h.o2 hb }
theorem PBox.own (h : PBox B w b O W J v0 v1 v2 S0 S1 S2) : spPres.own w (fun k => S0 k ∨ S1 k ∨ S2 k) (.agg #[v0, v1, v2]) ⟨O, W, J⟩ := own_pres h.o0 h.o1 h.o2 h.d01 h.d02 h.d12
theorem PBox.base (h : PBox B w b O W J v0 v1 v2 S0 S1 S2) : ∀ k, (S0 k ∨ S1 k ∨ S2 k) → B ≤ k ∧ k ≠ b := fun k hk => by
  rcases hk with hk | hk | hk
  · exact h.s0 k hk
  · exact h.s1 k hk
  · exact h.s2 k hk
theorem PBox.putW {w7 : World} {W' : List (List Int)} {v7 : Value} {S7 : Nat → Prop} (h : PBox B w b O W J v0 v1 v2 S0 S1 S2) (ch : ChgS S1 w w7) (own7 : spII.own w7 S7 v7 W') (hS7 : ∀ k, S7 k → S1 k ∨ w.heap.size ≤ k) :
    PBox B (w7.setCell ⟨b, 1, none⟩ v7) b O W' J v0 v7 v2 S0 S7 S2 := by
  have hb := h.hB
  have hlt := h.box.lt
  have n7 : ¬ S7 b := fun hh => by
    rcases hS7 b hh with h1 | h1
    · exact (h.s1 b h1).2 rfl
    · omega
  refine ⟨?_, ?_, ?_, ?_, ?_, h.d02, ?_, h.s0, ?_, h.s2, hb⟩
  · have := (h.box.chg ch (fun hh => (h.s1 b hh).2 rfl)).set 1 v7
    simpa using this
  · exact spI.own_set (spI.own_chg h.o0 ch h.d01) (p := ⟨b, 1, none⟩) (fun hh => (h.s0 b hh).2 rfl) _
  · exact spII.own_set own7 (p := ⟨b, 1, none⟩) n7 _
  · exact spIII.own_set (spIII.own_chg h.o2 ch fun k h1 h2 => h.d12 k h2 h1) (p := ⟨b, 1, none⟩) (fun hh => (h.s2 b hh).2 rfl) _
  · intro k h1 h2
    rcases hS7 k h2 with h3 | h3
    · exact h.d01 k h1 h3
    · have := spI.own_lt h.o0 h1; omega
  · intro k h1 h2
    rcases hS7 k h1 with h3 | h3
    · exact h.d12 k h3 h2
    · have := spIII.own_lt h.o2 h2; omega
  · intro k h1
    rcases hS7 k h1 with h3 | h3
    · exact h.s1 k h3
    · omega
theorem PBox.putJ {w7 : World} {J' : List (List (List Int))} {v7 : Value} {S7 : Nat → Prop} (h : PBox B w b O W J v0 v1 v2 S0 S1 S2) (ch : ChgS S2 w w7) (own7 : spIII.own w7 S7 v7 J') (hS7 : ∀ k, S7 k → S2 k ∨ w.heap.size ≤ k) :
    PBox B (w7.setCell ⟨b, 2, none⟩ v7) b O W J' v0 v1 v7 S0 S1 S7 := by
  have hb := h.hB
  have hlt := h.box.lt
  have n7 : ¬ S7 b := fun hh => by
    rcases hS7 b hh with h1 | h1
    · exact (h.s2 b h1).2 rfl
    · omega
  refine ⟨?_, ?_, ?_, ?_, h.d01, ?_, ?_, h.s0, h.s1, ?_, hb⟩
  · have := (h.box.chg ch (fun hh => (h.s2 b hh).2 rfl)).set 2 v7
    simpa using this
  · exact spI.own_set (spI.own_chg h.o0 ch h.d02) (p := ⟨b, 2, none⟩) (fun hh => (h.s0 b hh).2 rfl) _
  · exact spII.own_set (spII.own_chg h.o1 ch h.d12) (p := ⟨b, 2, none⟩) (fun hh => (h.s1 b hh).2 rfl) _
  · exact spIII.own_set own7 (p := ⟨b, 2, none⟩) n7 _
  · intro k h1 h2
    rcases hS7 k h2 with h3 | h3
    · exact h.d02 k h1 h3
    · have := spI.own_lt h.o0 h1; omega
  · intro k h1 h2
    rcases hS7 k h2 with h3 | h3
    · exact h.d12 k h1 h3
    · have := spII.own_lt h.o1 h1; omega
  · intro k h1
    rcases hS7 k h1 with h3 | h3
    · exact h.s2 k h3
    · omega
theorem PBox.putJ' {w7 : World} {J' : List (List (List Int))} {v7 : Value} {S7 : Nat → Prop} (h : PBox B w b O W J v0 v1 v2 S0 S1 S2) (ch : ChgS S2 w w7) (own7 : spIII.own w7 S7 v7 J') (hS7 : ∀ k, S7 k → S2 k ∨ (¬ S0 k ∧ ¬ S1 k ∧ B ≤ k ∧ k ≠ b)) :
    PBox B (w7.setCell ⟨b, 2, none⟩ v7) b O W J' v0 v1 v7 S0 S1 S7 := by
  have hb := h.hB
  have n7 : ¬ S7 b := fun hh => by
    rcases hS7 b hh with h1 | h1
    · exact (h.s2 b h1).2 rfl
    · exact h1.2.2.2 rfl
  refine ⟨?_, ?_, ?_, ?_, h.d01, ?_, ?_, h.s0, h.s1, ?_, hb⟩
  · have := (h.box.chg ch (fun hh => (h.s2 b hh).2 rfl)).set 2 v7
    simpa using this
  · exact spI.own_set (spI.own_chg h.o0 ch h.d02) (p := ⟨b, 2, none⟩) (fun hh => (h.s0 b hh).2 rfl) _
  · exact spII.own_set (spII.own_chg h.o1 ch h.d12) (p := ⟨b, 2, none⟩) (fun hh => (h.s1 b hh).2 rfl) _
  · exact spIII.own_set own7 (p := ⟨b, 2, none⟩) n7 _
  · intro k h1 h2
    rcases hS7 k h2 with h3 | h3
    · exact h.d02 k h1 h3
    · exact h3.1 h1
  · intro k h1 h2
    rcases hS7 k h2 with h3 | h3
    · exact h.d12 k h1 h3
    · exact h3.2.1 h1
  · intro k h1
    rcases hS7 k h1 with h3 | h3
    · exact h.s2 k h3
    · exact ⟨h3.2.2.1, h3.2.2.2⟩
/-- A row replaced by one in new memory. -/
theorem PBox.row {w2 : World} {g n c j : Nat} {u : Value} {x : List Int} {T : Nat → Prop} (h : PBox B w b O W J v0 (.slice (some ⟨g, 0, none⟩) n c) v2 S0 S1 S2) (hj : j < W.length) (hb : Below w.heap.size w w2) (hu : spI.own w2 T u x) (hT : ∀ k, T k → w.heap.size ≤ k) :
    PBox B (w2.setCell ⟨g, j, none⟩ u) b O (W.set j x) J v0 (.slice (some ⟨g, 0, none⟩) n c) v2 S0 (fun k => S1 k ∨ T k) S2 := by
  have hlt := h.box.lt
  have hB := h.hB
  have hg : S1 g := by obtain ⟨_, _, _, _, _, _, h5, _⟩ := h.o1; exact h5 g rfl
  have hgb := h.s1 g hg
  obtain ⟨-, -, o1, -⟩ := spL_put h.o1 hj hb hu hT
  refine ⟨?_, ?_, o1, ?_, ?_, h.d02, ?_, h.s0, ?_, h.s2, hB⟩
  · exact (h.box.below hb).other (p := ⟨g, j, none⟩) (fun e => hgb.2 e.symm) u
  · exact spI.own_set (spI.own_below h.o0 hb) (p := ⟨g, j, none⟩) (fun hh => h.d01 g hh hg) u
  · exact spIII.own_set (spIII.own_below h.o2 hb) (p := ⟨g, j, none⟩) (fun hh => h.d12 g hg hh) u
  · intro k h1 h2
    rcases h2 with h3 | h3
    · exact h.d01 k h1 h3
    · have := spI.own_lt h.o0 h1; have := hT k h3; omega
  · intro k h1 h2
    rcases h1 with h3 | h3
    · exact h.d12 k h3 h2
    · have := spIII.own_lt h.o2 h2; have := hT k h3; omega
  · intro k h1
    rcases h1 with h3 | h3
    · exact h.s1 k h3
    · have := hT k h3; omega
/-- A change within the powers; within the conjugates. -/
theorem PBox.inW {w2 : World} {W' : List (List Int)} (h : PBox B w b O W J v0 v1 v2 S0 S1 S2) (ch : ChgS S1 w w2) (o1 : spII.own w2 S1 v1 W') : PBox B w2 b O W' J v0 v1 v2 S0 S1 S2 :=
  { h with box := h.box.chg ch (fun hh => (h.s1 b hh).2 rfl), o0 := spI.own_chg h.o0 ch h.d01, o1 := o1, o2 := spIII.own_chg h.o2 ch fun k h1 h2 => h.d12 k h2 h1 }
theorem PBox.inJ {w2 : World} {J' : List (List (List Int))} (h : PBox B w b O W J v0 v1 v2 S0 S1 S2) (ch : ChgS S2 w w2) (o2 : spIII.own w2 S2 v2 J') : PBox B w2 b O W J' v0 v1 v2 S0 S1 S2 :=
  { h with box := h.box.chg ch (fun hh => (h.s2 b hh).2 rfl), o0 := spI.own_chg h.o0 ch h.d02, o1 := spII.own_chg h.o1 ch h.d12, o2 := o2 }
/-- A presentation of new memory, stored into a new box. -/
theorem PBox.of {v : Value} {S : Nat → Prop} {x : Pres} (h : spPres.own w S v x) (hS : ∀ k, S k → B ≤ k) (hB : B ≤ w.heap.size) : ∃ v0 v1 v2 S0 S1 S2, v = .agg #[v0, v1, v2] ∧ PBox B (w.alloc (.cells #[v0, v1, v2] 28)) w.heap.size x.O x.W x.J v0 v1 v2 S0 S1 S2 := by
  obtain ⟨v0, v1, v2, T0, T1, T2, rfl, o0, o1, o2, d01, d02, d12, s0, s1, s2, hl⟩ := h
  exact ⟨v0, v1, v2, T0, T1, T2, rfl, Blk.new w _ _, spI.own_alloc o0 _, spII.own_alloc o1 _, spIII.own_alloc o2 _, d01, d02, d12, fun k hk => ⟨hS k (s0 k hk), by have := hl k (s0 k hk); omega⟩, fun k hk => ⟨hS k (s1 k hk), by have := hl k (s1 k hk); omega⟩, fun k hk => ⟨hS k (s2 k hk), by have := hl k (s2 k hk); omega⟩, hB⟩
/-- The values are slices. -/
theorem PBox.forms (h : PBox B w b O W J v0 v1 v2 S0 S1 S2) : (∃ A c, v0 = .slice A O.length c) ∧ (∃ A c, v1 = .slice A W.length c) ∧ ∃ A c, v2 = .slice A J.length c := by
  refine ⟨?_, ?_, ?_⟩
  · obtain ⟨A, c, e, -⟩ := spI.own_rd h.o0; exact ⟨A, c, e⟩
  · obtain ⟨A, c, e, -⟩ := spII.own_rd h.o1; exact ⟨A, c, e⟩
  · obtain ⟨A, c, e, -⟩ := spIII.own_rd h.o2; exact ⟨A, c, e⟩
end
end Go.Proofs.Ytahmhdpgdhfjnaa
namespace Go.Proofs.Ytahmhdpgdhfjnaa
open Go.RowKit
set_option linter.unusedVariables false
set_option linter.unusedSimpArgs false

def Num.trivR (n i : Nat) : Nat → List (List Int)
  | 0 => []
  | k + 1 => Num.trivR n i k ++ [Num.unit7 n (i + 1 + k)]
def Num.trivJ (n : Nat) : Nat → List (List (List Int))
  | 0 => []
  | i + 1 => Num.trivJ n i ++ [Num.trivR n i (n - 1 - i)]
theorem Num.trivR_len (n i : Nat) : ∀ k, (Num.trivR n i k).length = k
  | 0 => rfl
  | k + 1 => by simp [Num.trivR, Num.trivR_len n i k]
theorem Num.trivJ_len (n : Nat) : ∀ k, (Num.trivJ n k).length = k
  | 0 => rfl
  | k + 1 => by simp [Num.trivJ, Num.trivJ_len n k]
/-- The presentation of trivial relations. -/
def trivP (O : List Int) : Pres := ⟨O, List.replicate O.length (List.replicate O.length 0), Num.trivJ O.length O.length⟩
set_option maxRecDepth 100000 in
set_option maxHeartbeats 4000000 in
theorem sTrivial_any (A : Option Addr) (c : Nat) (O : List Int) (w : World) (hO : RdI w A O) (hl : O.length ≤ 64) : Calls Try.prog 156 #[.slice A O.length c] w (Made spPres (trivP O) w) := by
  obtain ⟨iT, hiT, hz0, hz1, hz2⟩ := info_parts infoI
  have b0 : Below w.heap.size w (w.alloc (.cells #[.slice none 0 0, .slice none 0 0, .slice none 0 0] 28)) := by go_grown
  have BR0 := (Blk.new w [.slice none 0 0, .slice none 0 0, .slice none 0 0] 28)
  have HOW := Lib.hid (sOwnI_any A O.length c O (w.alloc (.cells #[.slice none 0 0, .slice none 0 0, .slice none 0 0] 28)) (hO.below' b0) rfl (by omega))
  clear hO
  generalize hn : O.length = n at *
  have HNL := Lib.hid hn
  clear hn
  go_enter Try.func156, Try.ntmps156
  go_wp2_with (fail)
  refine HOW.out.mono ?_; rintro e w1 ⟨u0, rfl, ow0, hb1⟩
  obtain ⟨A0, n0, c0, rfl, e0⟩ := ow0.formN
  have L1 := bstep b0 b0.size hb1
  have PB0 : PBox (w.heap.size + 1) (w1.alloc (.cells #[.slice A0 n0 c0, .slice none 0 0, .slice none 0 0] 28)) w1.heap.size O [] [] (.slice A0 n0 c0) (.slice none 0 0) (.slice none 0 0) (fun k => (Value.slice A0 n0 c0).ownBlock = some k) (fun _ => False) (fun _ => False) :=
    ⟨Blk.new w1 _ _, spI.own_alloc (spI_of ow0) _, spL_nil _ _ _ _, spL_nil _ _ _ _, fun k _ h => h, fun k _ h => h, fun k h => h.elim, fun k hk => by have := World.ownsRow.lt ow0 k hk; simp only [World.size_alloc] at this; exact ⟨this.1, by omega⟩, fun k h => h.elim, fun k h => h.elim, by have := hb1.size; simpa using this⟩
  have BR := (BR0.below hb1).alloc (.cells #[.slice A0 n0 c0, .slice none 0 0, .slice none 0 0] 28)
  have LA : Below w.heap.size w (w1.alloc (.cells #[.slice A0 n0 c0, .slice none 0 0, .slice none 0 0] 28)) := L1.alloc L1.size _
  have hb4 : w.heap.size < w1.heap.size := by have := hb1.size; simp at this; omega
  have HPB0 := Lib.hid PB0
  have HBR0 := Lib.hid BR
  have e0' : n0 = n := by rw [← HNL.out]; exact e0.symm
  clear PB0 BR L1 hb1 ow0 HOW BR0 e0
  generalize hB4 : w1.heap.size = b4 at *
  subst e0'
  go_wp2_with (fail)
  generalize hWA : w1.alloc (.cells #[.slice A0 n0 c0, .slice none 0 0, .slice none 0 0] 28) = wa at *
  clear hWA hB4
  go_loopw [5] (fun s5 wr => ∃ (i : Nat) (v1 v2 : Value) (S1 S2 : Nat → Prop), s5 = .int .i64 i ∧ i ≤ n0 ∧ Hid (PBox (w.heap.size + 1) wr b4 O (List.replicate i (List.replicate n0 0)) (Num.trivJ n0 i) (.slice A0 n0 c0) v1 v2 (fun k => (Value.slice A0 n0 c0).ownBlock = some k) S1 S2) ∧ Hid (Blk wr w.heap.size [.slice none 0 0, .slice none 0 0, .slice none 0 0] 28) ∧ Below w.heap.size w wr) (fun s5 _ => n0 - (intOf s5).toNat)
  case atStart => exact ⟨0, _, _, _, _, rfl, by omega, HPB0, HBR0, LA⟩
  case round =>
    obtain ⟨i, v1, v2, S1, S2, rfl, hi, PB, BR, bel⟩ := hrel
    clear HPB0 HBR0 LA
    have Z := bel.size
    by_cases hlt : i < n0
    · have i0 : (0 : Int) ≤ (i : Int) := by omega
      have i1 : (i : Int) < (n0 : Int) := by omega
      obtain ⟨-, ⟨A1, c1, e1⟩, A2, c2, e2⟩ := PB.out.forms
      rw [List.length_replicate] at e1
      rw [Num.trivJ_len] at e2
      subst e1 e2
      obtain ⟨bl, x0, x1, x2⟩ := PB.out.box.c3
      have fr := PB.out.box.free 1
      have HSW : Hid (List.replicate (i + 1) (List.replicate n0 (0 : Int)) = List.replicate i (List.replicate n0 0) ++ [List.replicate n0 0]) := Lib.hid List.replicate_succ'
      have hlw : (List.replicate i (List.replicate n0 (0 : Int))).length ≤ 1000000 := by rw [List.length_replicate]; omega
      have HSJ : Hid (Num.trivJ n0 (i + 1) = Num.trivJ n0 i ++ [Num.trivR n0 i (n0 - 1 - i)]) := Lib.hid rfl
      have hlj : (Num.trivJ n0 i).length ≤ 1000000 := by rw [Num.trivJ_len]; omega
      generalize List.replicate i (List.replicate n0 (0 : Int)) = ws at *
      generalize Num.trivJ n0 i = js at *
      have HO1 := Lib.hid PB.out.o1
      have HSB := Lib.hid PB.out.s1
      obtain ⟨w3, hrun3, own3, gr3⟩ := run_make_full (P := Try.prog) wr.drew wr.heap.size 24 2 iT (.int .i64 0) 1 Try.underlying24 hiT hz0 hz1 .i64 .i64 n0 (by rw [hz2]; omega) (by unfold maxLen; omega) (Nat.le_refl _)
      have o3 := madeZ own3
      have L3 : Below wr.heap.size wr w3 := (Below.refl _ _).drew.grown gr3 (Nat.le_refl _) (fun k hk => by simp at hk)
      have SM3 : w3.cell? ⟨b4, 1, none⟩ = some (.slice A1 i c1) := by rw [L3.cell bl]; exact x1
      have PB3 := PB.out.below L3
      have HPA := PB3.o1
      have HPC := spI_of o3
      have HPB : ∀ k, S1 k → ¬ ((Value.slice (some ⟨wr.heap.size, 0, none⟩) n0 n0).ownBlock = some k) := fun k h1 h2 => by have := spII.own_lt HO1.out h1; have := World.ownsRow.lt o3 k h2; omega
      have t3 : b4 < w3.heap.size := Nat.lt_of_lt_of_le bl L3.size
      have HPB3 := Lib.hid PB3
      have HO3 := Lib.hid o3
      have HL3 := Lib.hid L3
      clear own3 gr3 PB3
      go_wp2_with (fail)
      go_region_law (first
        | (refine step_push (s := spI) (nul := []) w3 rfl (.tmp 19) (.tmp 22) 25 24 rfl Try.underlying25 infoII S1 (fun k => (Value.slice (some ⟨wr.heap.size, 0, none⟩) n0 n0).ownBlock = some k) (.slice A1 i c1) (.slice (some ⟨wr.heap.size, 0, none⟩) n0 n0) ws (List.replicate n0 0) rfl rfl HPA HPC rfl HPB hlw ?_; intro v7 w7 S7 own7 hS7 ch7 fm7; obtain ⟨A7, c7, rfl⟩ := fm7; have SM7 : w7.cell? ⟨b4, 1, none⟩ = some (.slice A1 i c1) := (by have h9 := (HPB3.out.box.chg ch7 (fun hh => (HPB3.out.s1 _ hh).2 rfl)).cell 1 (by simp); exact h9); have SF7 : w7.frozen? ⟨b4, 1, none⟩ = false := (HPB3.out.box.chg ch7 (fun hh => (HPB3.out.s1 _ hh).2 rfl)).free 1))
      all_goals
        have CH8 : ChgS S1 wr w7 := (ChgS.of_below HL3.out).trans ch7
        have PB8 := PB.out.putW CH8 own7 (fun k hk => by
          rcases hS7 k hk with h | h | h
          · exact .inl h
          · exact .inr (World.ownsRow.lt HO3.out k h).1
          · exact .inr (by have := HL3.out.size; omega))
        have L8 := (bstepS bel Z (fun k hk => by have := PB.out.s1 k hk; omega) CH8).setCell (p := ⟨b4, 1, none⟩) (by simp; omega) (.slice A7 (ws.length + 1) c7)
        have BR8 := (BR.out.chg CH8 (fun hh => by have := PB.out.s1 _ hh; omega)).other (p := ⟨b4, 1, none⟩) (by simp; omega) (.slice A7 (ws.length + 1) c7)
        have HPB8 := Lib.hid PB8
        have HBR8 := Lib.hid BR8
        clear PB8 BR8 CH8 own7 ch7 hS7 SM7 SF7 PB BR HPB3 HO1 HSB HPA HPC HPB o3 L3 SM3 hrun3 HL3 HO3 bel x0 x1 x2 fr bl t3
        obtain ⟨W8, hW8⟩ : ∃ X, w7.setCell ⟨b4, 1, none⟩ (.slice A7 (ws.length + 1) c7) = X := ⟨_, rfl⟩
        rw [hW8] at HPB8 HBR8 L8
        have own9 : Hid (spII.own (W8.alloc (.cells #[] 24)) (fun k => k = W8.heap.size) (.slice (some ⟨W8.heap.size, 0, none⟩) 0 0) (Num.trivR n0 i 0)) := Lib.hid (spL_empty _ _ _ _)
        have B9 : Below W8.heap.size W8 (W8.alloc (.cells #[] 24)) := by go_grown
        have hw1 : IntKind.i64.wrap ((i : Int) + 1) = (i : Int) + 1 := IntWalk.i64_in _ (by omega)
        go_wp2_with (fail)
        clear hW8
        go_loopw [6, 7] (fun s6 s7 wr => ∃ (k : Nat) (S3 : Nat → Prop), s7 = .int .i64 ((i : Int) + 1 + (k : Int)) ∧ k ≤ n0 - 1 - i ∧ Hid (spII.own wr S3 s6 (Num.trivR n0 i k)) ∧ Hid (∀ k, S3 k → W8.heap.size ≤ k) ∧ Below W8.heap.size W8 wr) (fun _ s7 _ => n0 - (intOf s7).toNat)
        case atStart => exact ⟨0, _, by simp, by omega, own9, Lib.hid (fun k hk => by omega), B9⟩
        case round =>
          clear own9 B9
          obtain ⟨k, S3, rfl, hk, own, hS, be8⟩ := hrel
          by_cases hlk : k < n0 - 1 - i
          · have k1 : (i : Int) + 1 + (k : Int) < (n0 : Int) := by omega
            have k2 : IntKind.i64.wrap ((i : Int) + 1 + (k : Int) + 1) = (i : Int) + 1 + (k : Int) + 1 := IntWalk.i64_in _ (by omega)
            have HU := sUnit_any n0 (i + 1 + k) wr hl (by omega)
            rw [show ((i + 1 + k : Nat) : Int) = (i : Int) + 1 + (k : Int) by omega] at HU
            have HUH := Lib.hid HU
            have HSK : Hid (Num.trivR n0 i (k + 1) = Num.trivR n0 i k ++ [Num.unit7 n0 (i + 1 + k)]) := Lib.hid rfl
            have hlr : (Num.trivR n0 i k).length ≤ 1000000 := by rw [Num.trivR_len]; omega
            generalize Num.trivR n0 i k = rs at *
            generalize Num.unit7 n0 (i + 1 + k) = un at *
            clear HU
            go_wp2_with (fail)
            refine HUH.out.mono ?_; rintro e w5 ⟨u5, rfl, ow5, hb5⟩
            obtain ⟨A6, n6, c6, rfl, e6⟩ := ow5.formN
            have HPA := spII.own_below own.out hb5
            have HPB := apart_row own.out ow5
            have HPC := spI_of ow5
            have L5 := bstep be8 be8.size hb5
            go_wp2_with (first | (at_builtin; refine wpList_push (s := spI) (nul := []) w5 rfl _ _ 25 24 rfl Try.underlying25 infoII S3 (fun k => (Value.slice A6 n6 c6).ownBlock = some k) u6 (.slice A6 n6 c6) rs un rfl rfl HPA HPC rfl HPB hlr ?_; intro v9 w9 S9 own9 hS9 ch9 fm9))
            have HO9 : Hid (spII.own w9 S9 v9 (Num.trivR n0 i (k + 1))) := Lib.hid (by rw [HSK.out]; exact own9)
            have L9 := bstepS L5 L5.size hS.out ch9
            have HS9 : Hid (∀ k, S9 k → W8.heap.size ≤ k) := Lib.hid fun q hq => by
              rcases hS9 q hq with h | h | h
              · exact hS.out q h
              · have := ow5.base_le q h; have := be8.size; omega
              · have := L5.size; omega
            go_wp2_with (fail)
            exact ⟨⟨k + 1, S9, by first | (congr 1; omega) | (simp; omega), by omega, HO9, HS9, L9⟩, by simp [intOf]; omega⟩
          · have hge : ¬ ((i : Int) + 1 + (k : Int) < (n0 : Int)) := by omega
            obtain rfl : k = n0 - 1 - i := by omega
            have hwi : IntKind.i64.wrap ((i : Int) + 1) = (i : Int) + 1 := IntWalk.i64_in _ (by omega)
            have PB9 := HPB8.out.below be8
            have BR9 := HBR8.out.below be8
            have L9 := bstep L8 L8.size be8
            generalize Num.trivR n0 i (n0 - 1 - i) = row at *
            obtain ⟨A6, c6, e6, -⟩ := spII.own_rd own.out
            obtain ⟨n6, hn6⟩ : ∃ n6, row.length = n6 := ⟨_, rfl⟩
            rw [hn6] at e6
            subst e6
            clear hn6
            obtain ⟨bl, x0, x1, x2⟩ := PB9.box.c3
            have fr := PB9.box.free 2
            have HPB9 := Lib.hid PB9
            have HPA := PB9.o2
            have HPC := own.out
            have HPD : ∀ k, S2 k → ¬ S3 k := fun k h1 h2 => by have := spIII.own_lt HPB8.out.o2 h1; have := hS.out k h2; omega
            clear PB9 BR9
            go_wp2_with (first | (at_builtin; refine wpList_push (s := spII) (nul := []) wr rfl _ _ 26 25 rfl Try.underlying26 infoIII S2 S3 (.slice A2 i c2) (.slice A6 n6 c6) js row rfl rfl HPA HPC rfl HPD hlj ?_; intro v9 w9 S9 own9 hS9 ch9 fm9; obtain ⟨A9, c9, rfl⟩ := fm9; obtain ⟨SB9, SM90, SM91, SM9⟩ := (HPB9.out.box.chg ch9 (fun hh => (HPB9.out.s2 _ hh).2 rfl)).c3; have SF9 : w9.frozen? ⟨b4, 2, none⟩ = false := (HPB9.out.box.chg ch9 (fun hh => (HPB9.out.s2 _ hh).2 rfl)).free 2))
            have CH10 : ChgS S2 W8 w9 := (ChgS.of_below be8).trans ch9
            have PB10 := HPB8.out.putJ CH10 own9 (fun k hk => by
              rcases hS9 k hk with h | h | h
              · exact .inl h
              · exact .inr (hS.out k h)
              · exact .inr (by have := be8.size; omega))
            have L10 := (bstepS L8 L8.size (fun k hk => by have := HPB8.out.s2 k hk; omega) CH10).setCell (p := ⟨b4, 2, none⟩) (by simp; omega) (.slice A9 (js.length + 1) c9)
            have BR10 := (HBR8.out.chg CH10 (fun hh => by have := HPB8.out.s2 _ hh; omega)).other (p := ⟨b4, 2, none⟩) (by simp; omega) (.slice A9 (js.length + 1) c9)
            rw [← HSW.out, ← HSJ.out] at PB10
            have HPB10 := Lib.hid PB10
            have HBR10 := Lib.hid BR10
            clear PB10 BR10
            go_wp2_with (fail)
            exact ⟨⟨i + 1, _, _, _, _, by go_num, by omega, HPB10, HBR10, L10⟩, by simp [intOf]; omega⟩
    · have hge : ¬ ((i : Int) < (n0 : Int)) := by omega
      obtain rfl : i = n0 := by omega
      obtain ⟨-, ⟨A1, c1, e1⟩, A2, c2, e2⟩ := PB.out.forms
      rw [List.length_replicate] at e1
      rw [Num.trivJ_len] at e2
      subst e1 e2
      obtain ⟨bl, x0, x1, x2⟩ := PB.out.box.c3
      obtain ⟨br, r0, r1, r2⟩ := BR.out.c3
      obtain ⟨f0, f1, f2⟩ := BR.out.f3
      have ne1 : ¬ (w.heap.size = b4) := by omega
      have ne2 : ¬ (b4 = w.heap.size) := by omega
      have HPB := Lib.hid PB.out
      clear PB BR
      go_wp2_with (fail)
      refine bodyPost_ret (v := .agg #[.slice A0 i c0, .slice A1 i c1, .slice A2 i c2]) (by simp [results, Try.results156, go_sem, br, r0, r1, r2]) rfl ?_
      have ow := HPB.out.own
      have bs := HPB.out.base
      have nb : ¬ ((fun k => (Value.slice A0 i c0).ownBlock = some k ∨ S1 k ∨ S2 k) w.heap.size) := fun hh => by have := bs _ hh; omega
      refine ⟨_, _, rfl, ?_, fun k hk => by have := bs k hk; omega, ?_⟩
      · have e : trivP O = ⟨O, List.replicate i (List.replicate i 0), Num.trivJ i i⟩ := by unfold trivP; rw [HNL.out]
        rw [e]
        exact spPres.own_set (spPres.own_set (spPres.own_set ow (p := ⟨w.heap.size, 0, none⟩) nb _) (p := ⟨w.heap.size, 1, none⟩) nb _) (p := ⟨w.heap.size, 2, none⟩) nb _
      · exact ((bel.setCell (p := ⟨w.heap.size, 0, none⟩) (by simp) _).setCell (p := ⟨w.heap.size, 1, none⟩) (by simp) _).setCell (p := ⟨w.heap.size, 2, none⟩) (by simp) _
end Go.Proofs.Ytahmhdpgdhfjnaa
namespace Go.Proofs.Ytahmhdpgdhfjnaa
open Go.RowKit
set_option linter.unusedVariables false
set_option linter.unusedSimpArgs false

def noPres : Pres := ⟨[], [], []⟩
def rAbelianPresentation (O : List Int) : Pres := if Num.ordC O = 0 then trivP O else noPres
def cAbelianPresentation (O : List Int) : Int := Num.ordC O
theorem Num.trivR_mem (n i : Nat) : ∀ k, ∀ r ∈ Num.trivR n i k, r.length ≤ n
  | 0, r, h => by simp [Num.trivR] at h
  | k + 1, r, h => by
    rw [Num.trivR, List.mem_append, List.mem_singleton] at h
    rcases h with h | h
    · exact Num.trivR_mem n i k r h
    · rw [h, Num.unit7_len]; exact Nat.le_refl _
theorem Num.trivJ_mem (n : Nat) : ∀ k, ∀ r ∈ Num.trivJ n k, ∃ i j, r = Num.trivR n i j ∧ j ≤ n
  | 0, r, h => by simp [Num.trivJ] at h
  | k + 1, r, h => by
    rw [Num.trivJ, List.mem_append, List.mem_singleton] at h
    rcases h with h | h
    · exact Num.trivJ_mem n k r h
    · exact ⟨_, _, h, by omega⟩
theorem trivP_cnt {O : List Int} (h : O.length ≤ 64) : spPres.cnt (trivP O) ≤ 1000000000 := by
  show O.length + sumOf spI.cnt (List.replicate O.length (List.replicate O.length 0)) + sumOf spII.cnt (Num.trivJ O.length O.length) ≤ _
  have h1 := sumOf_bd spI.cnt 64 (List.replicate O.length (List.replicate O.length (0 : Int))) fun x hx => by
    rw [List.eq_of_mem_replicate hx]
    show (List.replicate O.length (0 : Int)).length ≤ _
    rw [List.length_replicate]; exact h
  have h2 := sumOf_bd spII.cnt (64 * 64) (Num.trivJ O.length O.length) fun x hx => by
    obtain ⟨i, j, rfl, hj⟩ := Num.trivJ_mem _ _ x hx
    have h3 := sumOf_bd spI.cnt 64 (Num.trivR O.length i j) fun y hy => Nat.le_trans (Num.trivR_mem _ _ _ y hy) h
    rw [Num.trivR_len] at h3
    show sumOf spI.cnt _ ≤ _
    have := Nat.mul_le_mul_right 64 (Nat.le_trans hj h)
    omega
  rw [List.length_replicate] at h1
  rw [Num.trivJ_len] at h2
  have h4 := Nat.mul_le_mul_right 64 h
  have h5 := Nat.mul_le_mul_right (64 * 64) h
  omega
theorem spL_nil' (w : World) : spI.own w (fun _ => False) (.slice none 0 0) [] := ⟨World.ownsRow_nil _ _ _ _, fun k e => by simp [Value.ownBlock] at e, fun k h => h.elim⟩
/-- What a function leaves that returns no presentation. -/
theorem MadeC.noPres {w w' : World} {c : Int} (hb : Below w.heap.size w w') : MadeC spPres noPres c w (.returned (.tuple #[.agg #[.slice none 0 0, .slice none 0 0, .slice none 0 0], .int .i64 c])) w' :=
  ⟨_, fun k => False ∨ False ∨ False, rfl, own_pres (spL_nil' _) (spL_nil _ _ _ _) (spL_nil _ _ _ _) (fun k h => h.elim) (fun k h => h.elim) (fun k h => h.elim), fun k hk => by rcases hk with h | h | h <;> exact h.elim, by
    show ([] : List Int).length + sumOf spI.cnt [] + sumOf spII.cnt [] ≤ _
    simp [sumOf], hb⟩
end Go.Proofs.Ytahmhdpgdhfjnaa
namespace Go.Proofs.Ytahmhdpgdhfjnaa
open Go.RowKit
set_option linter.unusedVariables false
set_option linter.unusedSimpArgs false

def RdWK (w : World) (A : Option Addr) (fs : List (List Int)) : Prop := ∀ i, i < fs.length → ∃ g o B c, A = some ⟨g, o, none⟩ ∧ g < w.heap.size ∧ w.cell? ⟨g, o + i, none⟩ = some (.slice B (fs.getD i []).length c) ∧ (fs.getD i []).length ≤ maxLen ∧ (RdI w B (fs.getD i []) ∧ (fs.getD i []).length ≤ c)
theorem RdWK.rd {w : World} {A : Option Addr} {fs : List (List Int)} (h : RdWK w A fs) : RdW w A fs := fun i hi => by
  obtain ⟨g, o, B, c, h1, h2, h3, h4, h5, h6⟩ := h i hi
  exact ⟨g, o, B, c, h1, h2, h3, h4, h5⟩
theorem RdWK.below' {w w' : World} {A : Option Addr} {fs : List (List Int)} (h : RdWK w A fs) (hb : Below w.heap.size w w') : RdWK w' A fs := by
  intro i hi
  obtain ⟨g, o, B, c, rfl, hg, hc, hl, hr, hk⟩ := h i hi
  exact ⟨g, o, B, c, rfl, by have := hb.size; omega, by rw [hb.cell hg]; exact hc, hl, hr.below' hb, hk⟩
def RdXK (w : World) (A : Option Addr) (fs : List (List (List Int))) : Prop := ∀ i, i < fs.length → ∃ g o B c, A = some ⟨g, o, none⟩ ∧ g < w.heap.size ∧ w.cell? ⟨g, o + i, none⟩ = some (.slice B (fs.getD i []).length c) ∧ (fs.getD i []).length ≤ maxLen ∧ RdWK w B (fs.getD i [])
def CapX (w : World) (A : Option Addr) (fs : List (List (List Int))) : Prop := ∀ i, i < fs.length → ∀ B n c, (∃ g o, A = some ⟨g, o, none⟩ ∧ w.cell? ⟨g, o + i, none⟩ = some (.slice B n c)) → n ≤ c
theorem RdXK.rd {w : World} {A : Option Addr} {fs : List (List (List Int))} (h : RdXK w A fs) : RdX w A fs := fun i hi => by
  obtain ⟨g, o, B, c, h1, h2, h3, h4, h5⟩ := h i hi
  exact ⟨g, o, B, c, h1, h2, h3, h4, h5.rd⟩
theorem RdXK.below' {w w' : World} {A : Option Addr} {fs : List (List (List Int))} (h : RdXK w A fs) (hb : Below w.heap.size w w') : RdXK w' A fs := by
  intro i hi
  obtain ⟨g, o, B, c, rfl, hg, hc, hl, hr⟩ := h i hi
  exact ⟨g, o, B, c, rfl, Nat.lt_of_lt_of_le hg hb.size, by rw [hb.cell hg]; exact hc, hl, hr.below' hb⟩
/-- The middle rows have room, too. -/
def RdXM (w : World) (A : Option Addr) (fs : List (List (List Int))) : Prop := ∀ i, i < fs.length → ∃ g o B c, A = some ⟨g, o, none⟩ ∧ g < w.heap.size ∧ w.cell? ⟨g, o + i, none⟩ = some (.slice B (fs.getD i []).length c) ∧ (fs.getD i []).length ≤ maxLen ∧ (RdWK w B (fs.getD i []) ∧ (fs.getD i []).length ≤ c)
theorem RdXM.k {w : World} {A : Option Addr} {fs : List (List (List Int))} (h : RdXM w A fs) : RdXK w A fs := fun i hi => by
  obtain ⟨g, o, B, c, h1, h2, h3, h4, h5, h6⟩ := h i hi
  exact ⟨g, o, B, c, h1, h2, h3, h4, h5⟩
theorem RdXM.below' {w w' : World} {A : Option Addr} {fs : List (List (List Int))} (h : RdXM w A fs) (hb : Below w.heap.size w w') : RdXM w' A fs := by
  intro i hi
  obtain ⟨g, o, B, c, rfl, hg, hc, hl, hr, hk⟩ := h i hi
  exact ⟨g, o, B, c, rfl, Nat.lt_of_lt_of_le hg hb.size, by rw [hb.cell hg]; exact hc, hl, hr.below' hb, hk⟩
def PresK (w : World) (v : Value) (x : Pres) : Prop := ∃ A0 c0 A1 c1 A2 c2, v = .agg #[.slice A0 x.O.length c0, .slice A1 x.W.length c1, .slice A2 x.J.length c2] ∧
    (RdI w A0 x.O ∧ RdWK w A1 x.W ∧ RdXM w A2 x.J) ∧ x.O.length ≤ maxLen ∧ x.W.length ≤ maxLen ∧ x.J.length ≤ maxLen ∧ x.O.length ≤ c0
theorem PresK.c {w : World} {v : Value} {x : Pres} (h : PresK w v x) : PresC w v x := by
  obtain ⟨A0, c0, A1, c1, A2, c2, e, ⟨h0, h1, h2⟩, m⟩ := h
  exact ⟨A0, c0, A1, c1, A2, c2, e, ⟨h0, h1.rd, h2.k.rd⟩, m⟩
theorem PresK.rd {w : World} {v : Value} {x : Pres} (h : PresK w v x) : spPres.rd w v x := h.c.rd
theorem PresK.below {w w' : World} {v : Value} {x : Pres} (h : PresK w v x) (hb : Below w.heap.size w w') : PresK w' v x := by
  obtain ⟨A0, c0, A1, c1, A2, c2, rfl, ⟨h0, h1, h2⟩, m⟩ := h
  exact ⟨A0, c0, A1, c1, A2, c2, rfl, ⟨h0.below' hb, h1.below' hb, h2.below' hb⟩, m⟩
theorem ownsRow_room {w : World} {base n size : Nat} {e : TypeId} {v : Value} {xs : List Value} (h : w.ownsRow base e size v n xs) : ∃ A cap, v = .slice A n cap ∧ n ≤ cap ∧ n ≤ maxLen := by
  rcases h.2 with ⟨h2, h0⟩ | ⟨g, cap, cur, hv, hg, hh, h1, h2, r⟩
  · exact ⟨none, 0, by rw [h2, h0], by omega, by omega⟩
  · exact ⟨_, cap, hv, h1, by omega⟩
/-- The rows of an own list. -/
theorem spL_rows {α : Type} {E : TypeId} {s : Sp α} {nul : α} {w : World} {S : Nat → Prop} {v : Value} {xs : List α} (h : (spL E s nul).own w S v xs) :
    ∃ A c, v = .slice A xs.length c ∧ xs.length ≤ maxLen ∧ xs.length ≤ c ∧ ∀ i, i < xs.length → ∃ g u T, A = some ⟨g, 0, none⟩ ∧ g < w.heap.size ∧ w.cell? ⟨g, 0 + i, none⟩ = some u ∧ s.own w T u (xs.getD i nul) := by
  obtain ⟨vs, T, h1, h2, h3, h4, h5, h6⟩ := h
  obtain ⟨A, c, e, hc, hm⟩ := ownsRow_room h1
  refine ⟨A, c, e, hm, hc, fun i hi => ?_⟩
  have hvl : vs.length = xs.length := by have := h1.1; simpa using this
  rcases h1.2 with ⟨hv, h0⟩ | ⟨g, c', cur, hv, hb, hg, r⟩
  · omega
  · rw [hv] at e
    simp only [Value.slice.injEq] at e
    obtain ⟨rfl, -, rfl⟩ := e
    subst hv
    refine ⟨g, vs.getD i undef, T i, rfl, (h1.lt g rfl).2, ?_, h2 i hi⟩
    rw [Nat.zero_add, h1.cellAt i (by omega), List.getD_eq_getElem?_getD, List.getElem?_eq_getElem (by omega)]
    rfl
theorem rdWK_of {w : World} {S : Nat → Prop} {A : Option Addr} {n c : Nat} {fs : List (List Int)} (h : spII.own w S (.slice A n c) fs) : RdWK w A fs := by
  obtain ⟨A', c', e, hm, hc, hr⟩ := spL_rows h
  simp only [Value.slice.injEq] at e
  obtain ⟨rfl, rfl, rfl⟩ := e
  intro i hi
  obtain ⟨g, u, T, rfl, hg, hcell, ho⟩ := hr i hi
  obtain ⟨B, d, e, hd, hm2⟩ := ownsRow_room ho.1
  have hrd := spI.own_rd ho
  subst e
  obtain ⟨B', d', e2, -, hri⟩ := hrd
  simp only [Value.slice.injEq] at e2
  obtain ⟨rfl, -, rfl⟩ := e2
  exact ⟨g, 0, B, d, rfl, hg, hcell, hm2, hri, hd⟩
theorem rdXM_of {w : World} {S : Nat → Prop} {A : Option Addr} {n c : Nat} {fs : List (List (List Int))} (h : spIII.own w S (.slice A n c) fs) : RdXM w A fs := by
  obtain ⟨A', c', e, hm, hc, hr⟩ := spL_rows h
  simp only [Value.slice.injEq] at e
  obtain ⟨rfl, rfl, rfl⟩ := e
  intro i hi
  obtain ⟨g, u, T, rfl, hg, hcell, ho⟩ := hr i hi
  have ho' := ho
  obtain ⟨vs, T', k1, -⟩ := ho'
  obtain ⟨B, d, rfl, hd, hm2⟩ := ownsRow_room k1
  exact ⟨g, 0, B, d, rfl, hg, hcell, hm2, rdWK_of ho, hd⟩
theorem presK_of {w : World} {S : Nat → Prop} {v : Value} {x : Pres} (h : spPres.own w S v x) : PresK w v x := by
  obtain ⟨A0, c0, A1, c1, A2, c2, e, ⟨h0, -, -⟩, m0, m1, m2, hc⟩ := presC_of h
  obtain ⟨v0, v1, v2, T0, T1, T2, e2, o0, o1, o2, -⟩ := h
  rw [e2] at e
  simp only [Value.agg.injEq, Array.mk.injEq, List.cons.injEq, and_true] at e
  obtain ⟨rfl, rfl, rfl⟩ := e
  exact ⟨A0, c0, A1, c1, A2, c2, e2, ⟨h0, rdWK_of o1, rdXM_of o2⟩, m0, m1, m2, hc⟩
def RelRdK (w : World) (p : RelV) : Prop := ∃ A c, p.1 = .slice A p.2.x.length c ∧ (RdI w A p.2.x ∧ p.2.x.length ≤ c) ∧ p.2.x.length ≤ maxLen
theorem RelRdK.rd {w : World} {p : RelV} (h : RelRdK w p) : RelRd w p := by
  obtain ⟨A, c, h1, h2, h3⟩ := h
  exact ⟨A, c, h1, h2.1, h3⟩
/-- A list of relations in new memory, whose vectors lie where they lay. -/
def RelsOutK (w w' : World) (base : Nat) (v : Value) (rs : List Num.Rel) : Prop := ∃ ps : List RelV, OwnR w' base v ps ∧ ps.map (·.2) = rs ∧ ∀ p ∈ ps, RelRdK w p
set_option maxRecDepth 100000 in
set_option maxHeartbeats 4000000 in
theorem relationsOfK_any (A0 A1 A2 : Option Addr) (c0 c1 c2 : Nat) (O : List Int) (W : List (List Int)) (J : List (List (List Int))) (w : World) (hO : RdI w A0 O) (hW : RdWK w A1 W) (hJ : RdXK w A2 J) (h6 : O.length ≤ 6) (hs : Num.shapeB O W J = true) :
    Calls Try.prog 62 #[.agg #[.slice A0 O.length c0, .slice A1 W.length c1, .slice A2 J.length c2]] w fun e w' => ∃ v, e = .returned v ∧ RelsOutK w w' w.heap.size v (Num.rels O W J) ∧ Below w.heap.size w w' := by
  obtain ⟨i0, hi, hz0, hz1, hz2⟩ := info_parts infoRel
  obtain ⟨eW, eJ, er⟩ := Num.shapeB_out hs
  have b0 : Below w.heap.size w (w.alloc (.cells #[.slice A0 O.length c0, .slice A1 W.length c1, .slice A2 J.length c2] 28)) := by go_grown
  have HO := Lib.hid (hO.below' b0)
  have HW := Lib.hid (hW.below' b0)
  have HJ := Lib.hid (hJ.below' b0)
  have HWw := Lib.hid hW
  have HJw := Lib.hid hJ
  have BX := (Blk.new w [.slice A0 O.length c0, .slice A1 W.length c1, .slice A2 J.length c2] 28).c3
  have lW : O.length ≤ W.length := by omega
  have lJ : O.length ≤ J.length := by omega
  have HR : Hid (∀ i, i < O.length → (J.getD i []).length ≤ 5 - i) := Lib.hid fun i hi => by have := er i (by omega); omega
  clear hO hW hJ eW eJ er hs
  generalize hW0 : (w.alloc (.cells #[.slice A0 O.length c0, .slice A1 W.length c1, .slice A2 J.length c2] 28)) = W0 at *
  obtain ⟨bl, bx0, bx1, bx2⟩ := BX
  go_enter Try.func62, Try.ntmps62
  go_wp2_with (fail)
  clear hW0
  go_loopw [3, 4, 12] (fun s3 s4 s12 wr => ∃ (i : Nat) (ps qs : List RelV), s12 = .int .i64 i ∧ i ≤ O.length ∧ Hid (OwnR wr W0.heap.size s3 ps) ∧ Hid (OwnR wr W0.heap.size s4 qs) ∧ Hid (ApartV s3 s4) ∧ Hid (ps.map (·.2) = Num.relsP O W i) ∧ Hid (qs.map (·.2) = Num.relsC O J i) ∧ Hid (∀ p, p ∈ ps ∨ p ∈ qs → RelRdK w p) ∧ ps.length ≤ i ∧ qs.length ≤ 6 * i ∧ Below W0.heap.size W0 wr) (fun _ _ s12 _ => O.length - (intOf s12).toNat)
  case atStart => exact ⟨0, [], [], rfl, by omega, Lib.hid (OwnR.nil _ _), Lib.hid (OwnR.nil _ _), Lib.hid (.inl rfl), Lib.hid rfl, Lib.hid rfl, Lib.hid (fun p hp => by rcases hp with h | h <;> simp at h), by simp, by simp, Below.refl _ _⟩
  case round =>
    obtain ⟨i, ps, qs, rfl, hi', hP, hQ, hap, hpm, hqm, hrd, lp, lq, bel⟩ := hrel
    have zb := bel.size
    by_cases hlt : i < O.length
    · obtain ⟨g, o, rfl, hg, hc⟩ := (HO.out.below' bel) i hlt
      obtain ⟨g1, o1, B1, d1, rfl, hg1, hc1, hl1, hr1⟩ := (HW.out.below' bel) i (by omega)
      obtain ⟨g2, o2, B2, d2, rfl, hg2, hc2, hl2, hr2⟩ := (HJ.out.below' bel) i (by omega)
      have j0 : (0 : Int) ≤ (i : Int) := by omega
      have j1 : (i : Int) < (O.length : Int) := by omega
      have j2 : (i : Int) < (W.length : Int) := by omega
      have j3 : (i : Int) < (J.length : Int) := by omega
      have y0 : wr.cell? ⟨w.heap.size, 0, none⟩ = some (.slice (some ⟨g, o, none⟩) O.length c0) := by rw [bel.cell bl]; exact bx0
      have y1 : wr.cell? ⟨w.heap.size, 1, none⟩ = some (.slice (some ⟨g1, o1, none⟩) W.length c1) := by rw [bel.cell bl]; exact bx1
      have y2 : wr.cell? ⟨w.heap.size, 2, none⟩ = some (.slice (some ⟨g2, o2, none⟩) J.length c2) := by rw [bel.cell bl]; exact bx2
      have hRr := HR.out i hlt
      have hRdP : Hid (RelRdK w (.slice B1 (W.getD i []).length d1, ⟨W.getD i [], i, i, O.getD i 0⟩)) := Lib.hid (by
        obtain ⟨g1', o1', B1', d1', e1, hg1', hc1', hl1', hr1'⟩ := HWw.out i (by omega)
        simp only [Option.some.injEq, Addr.mk.injEq, and_true] at e1
        obtain ⟨rfl, rfl⟩ := e1
        have hh : wr.cell? ⟨g1, o1 + i, none⟩ = w.cell? ⟨g1, o1 + i, none⟩ := by rw [bel.cell (by have := b0.size; show g1 < _; omega), b0.cell hg1']
        rw [hh, hc1'] at hc1
        simp only [Option.some.injEq, Value.slice.injEq, true_and] at hc1
        obtain ⟨rfl, rfl⟩ := hc1
        exact ⟨_, _, rfl, hr1', hl1'⟩)
      have hRdC : Hid (∀ k, k < (J.getD i []).length → ∃ g3 o3 B3 d3, B2 = some ⟨g3, o3, none⟩ ∧ g3 < W0.heap.size ∧ W0.cell? ⟨g3, o3 + k, none⟩ = some (.slice B3 ((J.getD i []).getD k []).length d3) ∧ RelRdK w (.slice B3 ((J.getD i []).getD k []).length d3, ⟨(J.getD i []).getD k [], (i : Int) + 1 + (k : Int), i, O.getD i 0⟩)) := Lib.hid fun k hk => by
        obtain ⟨g2', o2', B2', d2', e2, hg2', hc2', hl2', hr2'⟩ := HJw.out i (by omega)
        simp only [Option.some.injEq, Addr.mk.injEq, and_true] at e2
        obtain ⟨rfl, rfl⟩ := e2
        have hh : wr.cell? ⟨g2, o2 + i, none⟩ = w.cell? ⟨g2, o2 + i, none⟩ := by rw [bel.cell (by have := b0.size; show g2 < _; omega), b0.cell hg2']
        rw [hh, hc2'] at hc2
        simp only [Option.some.injEq, Value.slice.injEq, true_and] at hc2
        obtain ⟨rfl, rfl⟩ := hc2
        obtain ⟨g3, o3, B3, d3, rfl, hg3, hc3, hl3, hr3⟩ := hr2' k hk
        exact ⟨g3, o3, B3, d3, rfl, by have := b0.size; omega, by rw [b0.cell hg3]; exact hc3, _, _, rfl, hr3, hl3⟩
      have hPN : Hid (Num.relsP O W (i + 1) = Num.relsP O W i ++ [⟨W.getD i [], i, i, O.getD i 0⟩]) := Lib.hid rfl
      have hCN : Hid (Num.relsC O J (i + 1) = Num.relsC O J i ++ Num.relsK (J.getD i []) i (O.getD i 0) (J.getD i []).length) := Lib.hid rfl
      clear hr1 hr2
      unfold maxLen at hl1 hl2
      generalize W.getD i [] = x at *
      generalize J.getD i [] = r at *
      generalize O.getD i 0 = y at *
      have HZF : Hid (∀ w3, Below W0.heap.size W0 w3 → w3.cell? ⟨w.heap.size, 2, none⟩ = some (.slice (some ⟨g2, o2, none⟩) J.length c2) ∧ w3.cell? ⟨g2, o2 + i, none⟩ = some (.slice B2 r.length d2)) := Lib.hid fun w3 hb => ⟨by rw [hb.cell bl]; exact bx2, by
        obtain ⟨g2', o2', B2', d2', e2, hg2', hc2', -, -⟩ := HJw.out i (by omega)
        simp only [Option.some.injEq, Addr.mk.injEq, and_true] at e2
        obtain ⟨rfl, rfl⟩ := e2
        have q1 : g2 < W0.heap.size := by have := b0.size; omega
        rw [hb.cell q1]
        rw [bel.cell q1] at hc2
        exact hc2⟩
      have HC1 := Lib.hid (rdC_lit wr [.slice B1 x.length d1, .int .i64 i, .int .i64 i, .int .i64 y] 85)
      have HONE : Hid (∀ u ∈ [Value.slice B1 x.length d1, .int .i64 (i : Int), .int .i64 (i : Int), .int .i64 y], u.oneCell' = true) := Lib.hid (by simp [Value.oneCell'])
      have HPA : Hid (OwnR (wr.alloc (.cells #[.slice B1 x.length d1, .int .i64 (i : Int), .int .i64 (i : Int), .int .i64 y] 85)) W0.heap.size u3 ps) := Lib.hid (World.ownsRow.alloc hP.out _)
      go_wp2_with (first | (at_builtin; refine wpList_append_listN _ rfl _ _ 75 rfl W0.heap.size 85 i0 (.agg #[.slice none 0 0, .int .i64 0, .int .i64 0, .int .i64 0]) 4 48 Try.underlying75 hi hz0 hz1 hz2 rfl (by decide) _ ps.length (relCells ps) rfl HPA.out (some ⟨wr.heap.size, 0, none⟩) 1 1 [.slice B1 x.length d1, .int .i64 i, .int .i64 i, .int .i64 y] (by simp) rfl HC1.out HONE.out (by unfold maxLen; omega) (by omega) (by go_size) ?_; intro v3 w3 own3 gr3 at3; obtain ⟨p1, p2, p3⟩ := rel_push (p := (.slice B1 x.length d1, ⟨x, i, i, y⟩)) hP.out bel zb own3 gr3 at3; obtain ⟨z2, z3⟩ := HZF.out w3 p2))
      obtain ⟨p4, p5⟩ := p3 _ _ hQ.out hap.out
      have HP3 := Lib.hid p1
      have HQ3 := Lib.hid p4
      have HAP3 := Lib.hid p5
      have hpm3 : Hid ((ps ++ [(Value.slice B1 x.length d1, (⟨x, i, i, y⟩ : Num.Rel))]).map (·.2) = Num.relsP O W (i + 1)) := Lib.hid (by rw [hPN.out, List.map_append, hpm.out]; rfl)
      have hrd3 : Hid (∀ p, p ∈ ps ++ [(Value.slice B1 x.length d1, (⟨x, i, i, y⟩ : Num.Rel))] ∨ p ∈ qs → RelRdK w p) := Lib.hid fun p hp => by
        rcases hp with h | h
        · rcases List.mem_append.mp h with h | h
          · exact hrd.out p (.inl h)
          · rw [List.mem_singleton.mp h]; exact hRdP.out
        · exact hrd.out p (.inr h)
      have lp3 : (ps ++ [(Value.slice B1 x.length d1, (⟨x, i, i, y⟩ : Num.Rel))]).length ≤ i + 1 := by simp; omega
      generalize hPS : ps ++ [(Value.slice B1 x.length d1, (⟨x, i, i, y⟩ : Num.Rel))] = PS at *
      have L3 := p2
      have zb3 := p2.size
      clear own3 gr3 at3 p1 p2 p3 p4 p5 hP hQ hap hpm hrd hRdP HPA HC1 HONE y0 y1 y2 hc hc1 hc2 hPN hPS lp bel zb hg hg1 hg2 HZF
      go_loopw [4, 35] (fun s4 s35 wr => ∃ (k : Nat) (rs : List RelV), s35 = .int .i64 k ∧ k ≤ r.length ∧ Hid (OwnR wr W0.heap.size v3 PS) ∧ Hid (OwnR wr W0.heap.size s4 rs) ∧ Hid (ApartV v3 s4) ∧ Hid (rs.map (·.2) = Num.relsC O J i ++ Num.relsK r i y k) ∧ Hid (∀ p, p ∈ PS ∨ p ∈ rs → RelRdK w p) ∧ rs.length ≤ 6 * i + k ∧ Below W0.heap.size W0 wr) (fun _ s35 _ => r.length - (intOf s35).toNat)
      case atStart => exact ⟨0, qs, rfl, by omega, HP3, HQ3, HAP3, Lib.hid (by rw [hqm.out]; simp [Num.relsK]), hrd3, by omega, L3⟩
      case round =>
        obtain ⟨k, rs, rfl, hk, hP, hQ, hap, hrm, hrd, lr, bel⟩ := hrel
        clear HP3 HQ3 HAP3 hrd3 L3 zb3 z2 z3 hqm lq
        have zb := bel.size
        by_cases hlk : k < r.length
        · obtain ⟨g3, o3, B3, d3, rfl, hg3, hc3, hrdk⟩ := hRdC.out k hlk
          have k0 : (0 : Int) ≤ (k : Int) := by omega
          have k1 : (k : Int) < (r.length : Int) := by omega
          have y3 : wr.cell? ⟨g3, o3 + k, none⟩ = some (.slice B3 (r.getD k []).length d3) := by rw [bel.cell (by show g3 < _; omega)]; exact hc3
          have hw1 : IntKind.i64.wrap ((i : Int) + 1) = (i : Int) + 1 := IntWalk.i64_in _ (by omega)
          have hw2 : IntKind.i64.wrap ((i : Int) + 1 + (k : Int)) = (i : Int) + 1 + (k : Int) := IntWalk.i64_in _ (by omega)
          have hRN : Hid (Num.relsK r i y (k + 1) = Num.relsK r i y k ++ [⟨r.getD k [], (i : Int) + 1 + (k : Int), i, y⟩]) := Lib.hid rfl
          have HRK := Lib.hid hrdk
          clear hc3 hrdk
          generalize r.getD k [] = z at *
          have HC1 := Lib.hid (rdC_lit wr [.slice B3 z.length d3, .int .i64 ((i : Int) + 1 + (k : Int)), .int .i64 i, .int .i64 y] 85)
          have HONE : Hid (∀ u ∈ [Value.slice B3 z.length d3, .int .i64 ((i : Int) + 1 + (k : Int)), .int .i64 (i : Int), .int .i64 y], u.oneCell' = true) := Lib.hid (by simp [Value.oneCell'])
          have HPA : Hid (OwnR (wr.alloc (.cells #[.slice B3 z.length d3, .int .i64 ((i : Int) + 1 + (k : Int)), .int .i64 (i : Int), .int .i64 y] 85)) W0.heap.size u4 rs) := Lib.hid (World.ownsRow.alloc hQ.out _)
          have l5 : r.length ≤ 5 := by omega
          go_wp2_with (first | (at_builtin; refine wpList_append_listN _ rfl _ _ 75 rfl W0.heap.size 85 i0 (.agg #[.slice none 0 0, .int .i64 0, .int .i64 0, .int .i64 0]) 4 48 Try.underlying75 hi hz0 hz1 hz2 rfl (by decide) _ rs.length (relCells rs) rfl HPA.out (some ⟨wr.heap.size, 0, none⟩) 1 1 [.slice B3 z.length d3, .int .i64 ((i : Int) + 1 + (k : Int)), .int .i64 i, .int .i64 y] (by simp) rfl HC1.out HONE.out (by unfold maxLen; omega) (by omega) (by go_size) ?_; intro v4 w4 own4 gr4 at4))
          obtain ⟨p1, p2, p3⟩ := rel_push (p := (.slice B3 z.length d3, ⟨z, (i : Int) + 1 + (k : Int), i, y⟩)) hQ.out bel zb own4 gr4 at4
          obtain ⟨p4, p5⟩ := p3 _ _ hP.out hap.out.symm
          have HP3 := Lib.hid p1
          have HQ3 := Lib.hid p4
          have HAP3 := Lib.hid p5.symm
          have hrm3 : Hid ((rs ++ [(Value.slice B3 z.length d3, (⟨z, (i : Int) + 1 + (k : Int), i, y⟩ : Num.Rel))]).map (·.2) = Num.relsC O J i ++ Num.relsK r i y (k + 1)) := Lib.hid (by rw [hRN.out, List.map_append, hrm.out, List.append_assoc]; rfl)
          have hrd3 : Hid (∀ p, p ∈ PS ∨ p ∈ rs ++ [(Value.slice B3 z.length d3, (⟨z, (i : Int) + 1 + (k : Int), i, y⟩ : Num.Rel))] → RelRdK w p) := Lib.hid fun p hp => by
            rcases hp with h | h
            · exact hrd.out p (.inl h)
            · rcases List.mem_append.mp h with h | h
              · exact hrd.out p (.inr h)
              · rw [List.mem_singleton.mp h]; exact HRK.out
          have lr3 : (rs ++ [(Value.slice B3 z.length d3, (⟨z, (i : Int) + 1 + (k : Int), i, y⟩ : Num.Rel))]).length ≤ 6 * i + (k + 1) := by simp; omega
          generalize rs ++ [(Value.slice B3 z.length d3, (⟨z, (i : Int) + 1 + (k : Int), i, y⟩ : Num.Rel))] = RS at *
          have L3 := p2
          clear own4 gr4 at4 p1 p2 p3 p4 p5 hP hQ hap hrm hrd HPA HC1 HONE y3
          go_wp2_with (fail)
          exact ⟨⟨k + 1, RS, by go_num, by omega, HQ3, HP3, HAP3, hrm3, hrd3, lr3, L3⟩, by simp [intOf]; omega⟩
        · have hge : ¬ ((k : Int) < (r.length : Int)) := by omega
          obtain rfl : k = r.length := by omega
          have hqm3 : Hid (rs.map (·.2) = Num.relsC O J (i + 1)) := Lib.hid (by rw [hCN.out, hrm.out])
          go_wp2_with (fail)
          exact ⟨⟨i + 1, PS, rs, by go_num, by omega, hP, hQ, hap, hpm3, hqm3, hrd, by omega, by omega, bel⟩, by simp [intOf]; omega⟩
    · have hge : ¬ ((i : Int) < (O.length : Int)) := by omega
      obtain rfl : i = O.length := by omega
      obtain ⟨AP, cP, rfl, -⟩ := hP.out.form
      obtain ⟨AQ, cQ, rfl, hCQ⟩ := hQ.out.form
      have HCQ := Lib.hid hCQ
      have HONE := Lib.hid (relCells_one w qs (fun p hp => (hrd.out p (.inr hp)).rd))
      have HL := Lib.hid (relCells_len qs)
      have HB := Lib.hid (fun k hk => (World.ownsRow.lt hP.out k hk).1)
      have HM : Hid ((ps ++ qs).map (·.2) = Num.rels O W J) := Lib.hid (by rw [List.map_append, hpm.out, hqm.out]; rfl)
      clear hCQ
      go_wp2_with (first | (at_builtin; refine wpList_append_listN _ rfl _ _ 75 rfl W0.heap.size 85 i0 (.agg #[.slice none 0 0, .int .i64 0, .int .i64 0, .int .i64 0]) 4 48 Try.underlying75 hi hz0 hz1 hz2 rfl (by decide) _ ps.length (relCells ps) rfl hP.out AQ qs.length cQ (relCells qs) HL.out rfl HCQ.out HONE.out (by unfold maxLen; omega) (by omega) (by omega) ?_; intro v3 w3 own3 gr3 at3))
      have own4 : OwnR w3 W0.heap.size v3 (ps ++ qs) := by
        unfold OwnR
        rw [relCells_app]
        simpa using own3
      have L := bel.grown gr3 zb HB.out
      go_wp2_with (fail)
      go_ret
      exact ⟨_, rfl, ⟨ps ++ qs, ownsRow_base own4 b0.size, HM.out, fun p hp => hrd.out p (List.mem_append.mp hp)⟩, b0.trans (L.mono b0.size)⟩
end Go.Proofs.Ytahmhdpgdhfjnaa
namespace Go.Proofs.Ytahmhdpgdhfjnaa
open Go.RowKit
set_option linter.unusedVariables false
set_option linter.unusedSimpArgs false

theorem rdI_takeZ {w : World} {A : Option Addr} {x : List Int} (h : RdI w A x) (k : Nat) : RdI w A (x.take k) := fun j hj => by
  have hj' : j < k ∧ j < x.length := by rw [List.length_take] at hj; omega
  have e : (x.take k).getD j 0 = x.getD j 0 := by simp [List.getD_eq_getElem?_getD, List.getElem?_take, hj'.1]
  rw [e]
  exact h j hj'.2
def Num.nzB (xs : List Int) : Bool := decide (∃ j, j < xs.length ∧ xs.getD j 0 ≠ 0)
theorem nz_any (y : Int) (w : World) : Calls Try.prog 126 #[.int .i64 y] w fun e w' => e = .returned (.bool (decide (y ≠ 0))) ∧ w = w' := by
  by_cases h : y ≠ 0
  · have T : Hid (decide (y ≠ 0) = true) := Lib.hid (decide_eq_true h)
    have T2 : (y != 0) = true ∨ True := .inr trivial
    have T3 : ∀ (_ : y ≠ 0), (y != 0) = true := fun h => by simpa using h
    have T4 := T3
    have T5 := T3 h
    clear T2 T3 T4
    go_enter Try.func126, Try.ntmps126
    go_wp2_with (fail)
    go_ret
    exact ⟨ret_b T.out.symm, rfl⟩
  · have T : Hid (decide (y ≠ 0) = false) := Lib.hid (decide_eq_false h)
    have T5 : (y != 0) = false := by simpa using h
    go_enter Try.func126, Try.ntmps126
    go_wp2_with (fail)
    go_ret
    exact ⟨ret_b T.out.symm, rfl⟩
set_option maxHeartbeats 1000000 in
theorem nz_index (A : Option Addr) (c : Nat) (xs : List Int) (w : World) (h : RdI w A xs) (hl : xs.length ≤ 100000) :
    Calls Try.prog 150 #[.slice A xs.length c, .func (.func 126) #[] #[]] w fun e w' => ∃ r : Int, e = .returned (.int .i64 r) ∧ decide (0 ≤ r) = Num.nzB xs ∧ w = w' := by
  have HA := Lib.hid h
  clear h
  go_enter Try.func150, Try.ntmps150
  go_wp2_with (fail)
  go_loopw [8] (fun s8 wr => ∃ k : Nat, s8 = .int .i64 k ∧ k ≤ xs.length ∧ Hid (∀ j, j < k → ¬ (xs.getD j 0 ≠ 0)) ∧ w = wr) (fun s8 _ => xs.length - (intOf s8).toNat)
  case atStart => exact ⟨0, rfl, by omega, Lib.hid (fun j hj => by omega), rfl⟩
  case round =>
    obtain ⟨k, rfl, hk, hf, rfl⟩ := hrel
    by_cases hlt : k < xs.length
    · obtain ⟨g, o, rfl, hg, hc⟩ := HA.out k hlt
      have i0 : (0 : Int) ≤ (k : Int) := by omega
      have i1 : (k : Int) < (xs.length : Int) := by omega
      have HC := Lib.hid (nz_any (xs.getD k 0) w)
      by_cases hp : xs.getD k 0 ≠ 0
      · have HR : Hid (decide (0 ≤ (k : Int)) = Num.nzB xs) := Lib.hid (by unfold Num.nzB; rw [decide_eq_true i0, decide_eq_true ⟨k, hlt, hp⟩])
        rw [decide_eq_true hp] at HC
        clear hp hf
        generalize xs.getD k 0 = y at *
        go_wp2_with (fail)
        refine HC.out.mono ?_; rintro e w' ⟨rfl, rfl⟩
        go_wp2_with (fail)
        go_ret
        exact ⟨_, rfl, HR.out, rfl⟩
      · have HN : Hid (∀ j, j < k + 1 → ¬ (xs.getD j 0 ≠ 0)) := Lib.hid fun j hj => by
          rcases Nat.lt_succ_iff_lt_or_eq.mp hj with h1 | rfl
          · exact hf.out j h1
          · exact hp
        rw [decide_eq_false hp] at HC
        clear hp hf
        generalize xs.getD k 0 = y at *
        go_wp2_with (fail)
        refine HC.out.mono ?_; rintro e w' ⟨rfl, rfl⟩
        go_wp2_with (fail)
        exact ⟨⟨k + 1, by go_num, by omega, by first | exact HN | exact Lib.hid (fun j hj => by have := HN.out j hj; omega), by first | rfl | trivial⟩, by simp [intOf]; omega⟩
    · have hge : ¬ ((k : Int) < (xs.length : Int)) := by omega
      obtain rfl : k = xs.length := by omega
      have HR : Hid (decide (0 ≤ (-1 : Int)) = Num.nzB xs) := Lib.hid (by unfold Num.nzB; rw [decide_eq_false (show ¬ (0 : Int) ≤ -1 by omega), decide_eq_false (fun ⟨j, hj, hp⟩ => hf.out j hj hp)])
      go_wp2_with (fail)
      go_ret
      exact ⟨_, rfl, HR.out, rfl⟩
theorem nz_contains (A : Option Addr) (c : Nat) (xs : List Int) (w : World) (h : RdI w A xs) (hl : xs.length ≤ 100000) :
    Calls Try.prog 125 #[.slice A xs.length c, .func (.func 126) #[] #[]] w fun e w' => e = .returned (.bool (Num.nzB xs)) ∧ w = w' := by
  have HC := Lib.hid (nz_index A c xs w h hl)
  clear h
  generalize Num.nzB xs = b at *
  go_enter Try.func125, Try.ntmps125
  go_wp2_with (fail)
  refine HC.out.mono ?_; rintro e w' ⟨r, rfl, hr, rfl⟩
  have HR := Lib.hid hr
  clear hr
  go_wp2_with (fail)
  go_ret
  exact ⟨ret_b HR.out, rfl⟩
end Go.Proofs.Ytahmhdpgdhfjnaa
namespace Go.Proofs.Ytahmhdpgdhfjnaa
open Go.RowKit
set_option linter.unusedVariables false
set_option linter.unusedSimpArgs false

def Num.ptV (a b : Nat) (x : List Int) : List Int := (x.drop a).take (b - a)
def Num.ptW (W : List (List Int)) (a b : Nat) : Nat → List (List Int)
  | 0 => []
  | k + 1 => Num.ptW W a b k ++ [Num.ptV a b (W.getD (a + k) [])]
def Num.ptR (r : List (List Int)) (a b : Nat) : Nat → List (List Int)
  | 0 => []
  | k + 1 => Num.ptR r a b k ++ [Num.ptV a b (r.getD k [])]
def Num.ptJ (J : List (List (List Int))) (a b : Nat) : Nat → List (List (List Int))
  | 0 => []
  | k + 1 => Num.ptJ J a b k ++ [Num.ptR (J.getD (a + k) []) a b (b - (a + k) - 1)]
def partP (O : List Int) (W : List (List Int)) (J : List (List (List Int))) (a b : Nat) : Pres := ⟨Num.ptV a b O, Num.ptW W a b (b - a), Num.ptJ J a b (b - a)⟩
theorem Num.ptV_len {a b : Nat} {x : List Int} (h : b ≤ x.length) : (Num.ptV a b x).length = b - a := by unfold Num.ptV; rw [List.length_take, List.length_drop]; omega
theorem Num.ptW_len (W : List (List Int)) (a b : Nat) : ∀ k, (Num.ptW W a b k).length = k
  | 0 => rfl
  | k + 1 => by simp [Num.ptW, Num.ptW_len W a b k]
theorem Num.ptR_len (r : List (List Int)) (a b : Nat) : ∀ k, (Num.ptR r a b k).length = k
  | 0 => rfl
  | k + 1 => by simp [Num.ptR, Num.ptR_len r a b k]
theorem Num.ptJ_len (J : List (List (List Int))) (a b : Nat) : ∀ k, (Num.ptJ J a b k).length = k
  | 0 => rfl
  | k + 1 => by simp [Num.ptJ, Num.ptJ_len J a b k]
theorem Num.ptW_step (W : List (List Int)) {a b i : Nat} (h : a ≤ i) : Num.ptW W a b (i + 1 - a) = Num.ptW W a b (i - a) ++ [Num.ptV a b (W.getD i [])] := by
  rw [show i + 1 - a = (i - a) + 1 by omega, Num.ptW, show a + (i - a) = i by omega]
theorem Num.ptJ_step (J : List (List (List Int))) {a b i : Nat} (h : a ≤ i) : Num.ptJ J a b (i + 1 - a) = Num.ptJ J a b (i - a) ++ [Num.ptR (J.getD i []) a b (b - i - 1)] := by
  rw [show i + 1 - a = (i - a) + 1 by omega, Num.ptJ, show a + (i - a) = i by omega]
theorem Num.ptV_le (a b : Nat) (x : List Int) (h : x.length ≤ 6) : (Num.ptV a b x).length ≤ 6 := by unfold Num.ptV; rw [List.length_take, List.length_drop]; omega
/-- A part of a slice that is read. -/
theorem rdI_part {w : World} {A : Option Addr} {c a b : Nat} {x : List Int} (h : RdI w A x) (hc : x.length ≤ c) : RdI w (if c = a then A else A.map fun p => p.add a) (Num.ptV a b x) := by
  unfold Num.ptV
  refine rdI_takeZ ?_ _
  intro j hj
  rw [List.length_drop] at hj
  obtain ⟨g', o', e1, e2, e3⟩ := h (a + j) (by omega)
  subst e1
  have e : (x.drop a).getD j 0 = x.getD (a + j) 0 := by simp [List.getD_eq_getElem?_getD]
  rw [e, if_neg (by omega)]
  exact ⟨g', o' + a, by simp [Addr.add_lit], e2, by rw [Nat.add_assoc]; exact e3⟩
/-- What partOf and the like need. -/
structure Num.Shp9 (O : List Int) (W : List (List Int)) (J : List (List (List Int))) : Prop where
  n6 : O.length ≤ 6
  lw : W.length = O.length
  lj : J.length = O.length
  lr : ∀ i, i < O.length → (J.getD i []).length = O.length - 1 - i
  wl : ∀ i, i < O.length → (W.getD i []).length = O.length
  cl : ∀ i k, i < O.length → k < O.length - 1 - i → ((J.getD i []).getD k []).length = O.length
theorem Num.Shp9.of {O : List Int} {W : List (List Int)} {J : List (List (List Int))} (h : Num.preB O W J = true) : Num.Shp9 O W J := by
  obtain ⟨h1, h2, h3, h4, h5⟩ := Num.preB_out h
  obtain ⟨h6, -, -⟩ := Num.ordC_zero h1
  refine ⟨h6, h2, h3, fun i hi => (Num.conB_out (h5 i hi)).1, fun i hi => (Num.fitB_out (h4 i hi)).1, fun i k hi hk => ?_⟩
  obtain ⟨c1, c2⟩ := Num.conB_out (h5 i hi)
  exact (Num.fitB_out (c2 k (by rw [c1]; exact hk))).1
theorem partP_cnt {O : List Int} {W : List (List Int)} {J : List (List (List Int))} (V : Num.Shp9 O W J) {a b : Nat} (hb : b ≤ O.length) : spPres.cnt (partP O W J a b) ≤ 1000000000 := by
  have h6 := V.n6
  have m1 : ∀ (W : List (List Int)), (∀ i, i < b → (W.getD i []).length ≤ 6) → ∀ k, a + k ≤ b → ∀ r ∈ Num.ptW W a b k, r.length ≤ 6 := by
    intro W hW k
    induction k with
    | zero => intro _ r hr; simp [Num.ptW] at hr
    | succ k ih =>
      intro hk r hr
      rw [Num.ptW, List.mem_append, List.mem_singleton] at hr
      rcases hr with hr | hr
      · exact ih (by omega) r hr
      · rw [hr]; exact Num.ptV_le _ _ _ (hW _ (by omega))
  have m2 : ∀ (r : List (List Int)) (m : Nat), (∀ k, k < m → (r.getD k []).length ≤ 6) → ∀ k, k ≤ m → ∀ x ∈ Num.ptR r a b k, x.length ≤ 6 := by
    intro r m hr k
    induction k with
    | zero => intro _ x hx; simp [Num.ptR] at hx
    | succ k ih =>
      intro hk x hx
      rw [Num.ptR, List.mem_append, List.mem_singleton] at hx
      rcases hx with hx | hx
      · exact ih (by omega) x hx
      · rw [hx]; exact Num.ptV_le _ _ _ (hr _ (by omega))
  have m3 : ∀ k, a + k ≤ b → ∀ r ∈ Num.ptJ J a b k, spII.cnt r ≤ 100 := by
    intro k
    induction k with
    | zero => intro _ r hr; simp [Num.ptJ] at hr
    | succ k ih =>
      intro hk r hr
      rw [Num.ptJ, List.mem_append, List.mem_singleton] at hr
      rcases hr with hr | hr
      · exact ih (by omega) r hr
      · rw [hr]
        have h3 := sumOf_bd spI.cnt 6 (Num.ptR (J.getD (a + k) []) a b (b - (a + k) - 1)) (m2 _ (b - (a + k) - 1) (fun j hj => by rw [V.cl (a + k) j (by omega) (by omega)]; exact h6) _ (Nat.le_refl _))
        rw [Num.ptR_len] at h3
        show sumOf spI.cnt _ ≤ _
        omega
  show (Num.ptV a b O).length + sumOf spI.cnt (Num.ptW W a b (b - a)) + sumOf spII.cnt (Num.ptJ J a b (b - a)) ≤ _
  have h1 := Num.ptV_le a b O h6
  by_cases hab : a ≤ b
  · have h2 := sumOf_bd spI.cnt 6 (Num.ptW W a b (b - a)) (m1 W (fun i hi => by rw [V.wl i (by omega)]; exact h6) _ (by omega))
    have h3 := sumOf_bd spII.cnt 100 (Num.ptJ J a b (b - a)) (m3 _ (by omega))
    rw [Num.ptW_len] at h2
    rw [Num.ptJ_len] at h3
    omega
  · rw [show b - a = 0 by omega]
    show _ + sumOf spI.cnt [] + sumOf spII.cnt [] ≤ _
    simp [sumOf]
    omega
set_option maxRecDepth 100000 in
set_option maxHeartbeats 4000000 in
theorem partOf_any (A0 A1 A2 : Option Addr) (c0 c1 c2 a b : Nat) (O : List Int) (W : List (List Int)) (J : List (List (List Int))) (w : World) (hO : RdI w A0 O) (hW : RdWK w A1 W) (hJ : RdXM w A2 J) (V : Num.Shp9 O W J) (hab : a ≤ b) (hb : b ≤ O.length) (hc0 : O.length ≤ c0) :
    Calls Try.prog 59 #[.agg #[.slice A0 O.length c0, .slice A1 W.length c1, .slice A2 J.length c2], .int .i64 (a : Int), .int .i64 (b : Int)] w (Made spPres (partP O W J a b) w) := by
  have h6 := V.n6
  have HV := Lib.hid V
  have b0 : Below w.heap.size w ((w.alloc (.cells #[.slice A0 O.length c0, .slice A1 W.length c1, .slice A2 J.length c2] 28)).alloc (.cells #[.slice none 0 0, .slice none 0 0, .slice none 0 0] 28)) := by go_grown
  have BX0 := (Blk.new w [.slice A0 O.length c0, .slice A1 W.length c1, .slice A2 J.length c2] 28).alloc (.cells #[.slice none 0 0, .slice none 0 0, .slice none 0 0] 28)
  have BR0 : Blk ((w.alloc (.cells #[.slice A0 O.length c0, .slice A1 W.length c1, .slice A2 J.length c2] 28)).alloc (.cells #[.slice none 0 0, .slice none 0 0, .slice none 0 0] 28)) (w.heap.size + 1) [.slice none 0 0, .slice none 0 0, .slice none 0 0] 28 := by
    have := Blk.new (w.alloc (.cells #[.slice A0 O.length c0, .slice A1 W.length c1, .slice A2 J.length c2] 28)) [.slice none 0 0, .slice none 0 0, .slice none 0 0] 28
    simpa using this
  have a0 : (0 : Int) ≤ (a : Int) := by omega
  have a1 : (a : Int) ≤ (b : Int) := by omega
  have a2 : (b : Int) ≤ (c0 : Int) := by omega
  have a3 : (a : Int) ≤ (c0 : Int) := by omega
  have a4 : (b : Int) ≤ (O.length : Int) := by omega
  have ab1 : ¬ ((b : Int) < (a : Int)) := by omega
  have ab2 : ((b : Int) - (a : Int)).toNat = b - a := by omega
  have hz2 : ((w.alloc (.cells #[.slice A0 O.length c0, .slice A1 W.length c1, .slice A2 J.length c2] 28)).alloc (.cells #[.slice none 0 0, .slice none 0 0, .slice none 0 0] 28)).heap.size = w.heap.size + 2 := by simp
  generalize hW0 : ((w.alloc (.cells #[.slice A0 O.length c0, .slice A1 W.length c1, .slice A2 J.length c2] 28)).alloc (.cells #[.slice none 0 0, .slice none 0 0, .slice none 0 0] 28)) = W0 at *
  obtain ⟨bl, x0, x1, x2⟩ := BX0.c3
  have hRO := rdI_part (a := a) (b := b) (hO.below' b0) hc0
  obtain ⟨AD, hAD⟩ : ∃ AD, (if c0 = a then A0 else A0.map fun p => p.add a) = AD := ⟨_, rfl⟩
  rw [hAD] at hRO
  have HOW := Lib.hid (cloneI_any AD (c0 - a) (Num.ptV a b O) W0 hRO (by have := Num.ptV_le a b O h6; omega))
  rw [Num.ptV_len hb] at HOW
  have HWx := Lib.hid hW
  have HJx := Lib.hid hJ
  have hz0 := b0.size
  have hBR0 := BR0.lt
  clear hO hW hJ hRO V
  go_enter Try.func59, Try.ntmps59
  go_wp2_with (fail)
  clear hW0
  refine HOW.out.mono ?_; rintro e w1 ⟨u0, rfl, ow0, hb1⟩
  obtain ⟨A9, n9, c9, rfl, e9⟩ := ow0.formN
  generalize hOV : Num.ptV a b O = OV at *
  have L1 := bstep b0 b0.size hb1
  have PB0 : PBox W0.heap.size (w1.alloc (.cells #[.slice A9 n9 c9, .slice none 0 0, .slice none 0 0] 28)) w1.heap.size OV [] [] (.slice A9 n9 c9) (.slice none 0 0) (.slice none 0 0) (fun k => (Value.slice A9 n9 c9).ownBlock = some k) (fun _ => False) (fun _ => False) :=
    ⟨Blk.new w1 _ _, spI.own_alloc (spI_of ow0) _, spL_nil _ _ _ _, spL_nil _ _ _ _, fun k _ h => h, fun k _ h => h, fun k h => h.elim, fun k hk => by have := World.ownsRow.lt ow0 k hk; exact ⟨this.1, by omega⟩, fun k h => h.elim, fun k h => h.elim, hb1.size⟩
  have BR := (BR0.below hb1).alloc (.cells #[.slice A9 n9 c9, .slice none 0 0, .slice none 0 0] 28)
  have BX := (BX0.below hb1).alloc (.cells #[.slice A9 n9 c9, .slice none 0 0, .slice none 0 0] 28)
  have LA : Below w.heap.size w (w1.alloc (.cells #[.slice A9 n9 c9, .slice none 0 0, .slice none 0 0] 28)) := L1.alloc L1.size _
  have hb4 : w.heap.size + 2 ≤ w1.heap.size := by have := hb1.size; omega
  have HPB0 := Lib.hid PB0
  have HBR0 := Lib.hid BR
  have HBX0 := Lib.hid BX
  have HOV := Lib.hid hOV
  have HE9 := Lib.hid e9
  clear PB0 BR BX L1 hb1 ow0 HOW BR0 BX0 b0 bl x0 x1 x2 hBR0 hOV e9
  generalize hB4 : w1.heap.size = b4 at *
  generalize hZ0 : W0.heap.size = z0 at *
  go_wp2_with (fail)
  generalize hWA : w1.alloc (.cells #[.slice A9 n9 c9, .slice none 0 0, .slice none 0 0] 28) = wa at *
  clear hWA hB4 hZ0
  go_loopw [8] (fun s8 wr => ∃ (i : Nat) (v1 v2 : Value) (S1 S2 : Nat → Prop), s8 = .int .i64 i ∧ a ≤ i ∧ i ≤ b ∧ Hid (PBox z0 wr b4 OV (Num.ptW W a b (i - a)) (Num.ptJ J a b (i - a)) (.slice A9 n9 c9) v1 v2 (fun k => (Value.slice A9 n9 c9).ownBlock = some k) S1 S2) ∧ Hid (Blk wr (w.heap.size + 1) [.slice none 0 0, .slice none 0 0, .slice none 0 0] 28) ∧ Hid (Blk wr w.heap.size [.slice A0 O.length c0, .slice A1 W.length c1, .slice A2 J.length c2] 28) ∧ Below w.heap.size w wr) (fun s8 _ => b - (intOf s8).toNat)
  case atStart => exact ⟨a, _, _, _, _, rfl, Nat.le_refl _, hab, by rw [Nat.sub_self]; exact HPB0, HBR0, HBX0, LA⟩
  case round =>
    obtain ⟨i, v1, v2, S1, S2, rfl, hai, hib, PB, BR, BX, bel⟩ := hrel
    clear HPB0 HBR0 HBX0 LA
    have Z := bel.size
    by_cases hlt : i < b
    · have i0 : (0 : Int) ≤ (i : Int) := by omega
      have i1 : (i : Int) < (b : Int) := by omega
      have hw1 : IntKind.i64.wrap ((i : Int) + 1) = (i : Int) + 1 := IntWalk.i64_in _ (by omega)
      obtain ⟨-, ⟨A1', c1', e1⟩, A2', c2', e2⟩ := PB.out.forms
      rw [Num.ptW_len] at e1
      rw [Num.ptJ_len] at e2
      subst e1 e2
      have hlJ := HV.out.lj
      have hlW := HV.out.lw
      obtain ⟨gj, oj, Bj, cj, hA2, hgj, hcj, -, hrj, hkj⟩ := (HJx.out.below' bel) i (by rw [hlJ]; omega)
      obtain ⟨gw, ow, Bw, cw, hA1, hgw, hcw, -, hrw, hkw⟩ := (HWx.out.below' bel) i (by rw [hlW]; omega)
      have j1 : (i : Int) < (J.length : Int) := by omega
      have j2 : (i : Int) < (W.length : Int) := by omega
      have hlr := HV.out.lr i (by omega)
      have hlw := HV.out.wl i (by omega)
      have hlc := fun k hk => HV.out.cl i k (by omega) hk
      clear hlJ hlW
      have HSW := Lib.hid (Num.ptW_step W (b := b) hai)
      have HSJ := Lib.hid (Num.ptJ_step J (b := b) hai)
      have hlW' : (Num.ptW W a b (i - a)).length ≤ 1000000 := by rw [Num.ptW_len]; omega
      have hlJ' : (Num.ptJ J a b (i - a)).length ≤ 1000000 := by rw [Num.ptJ_len]; omega
      have HLW := Lib.hid (Num.ptW_len W a b (i - a))
      have HLJ := Lib.hid (Num.ptJ_len J a b (i - a))
      generalize Num.ptW W a b (i - a) = ws at *
      generalize Num.ptJ J a b (i - a) = js at *
      generalize hrow : J.getD i [] = row at *
      generalize hwow : W.getD i [] = wrow at *
      obtain ⟨nr, hnr⟩ : ∃ nr, row.length = nr := ⟨_, rfl⟩
      rw [hnr] at hcj hkj
      obtain ⟨nw, hnw⟩ : ∃ nw, wrow.length = nw := ⟨_, rfl⟩
      rw [hnw] at hcw hkw
      obtain ⟨m, hm⟩ : ∃ m : Nat, m = b - i - 1 := ⟨_, rfl⟩
      have hm1 : IntKind.i64.wrap ((b : Int) - (i : Int)) = (m : Int) + 1 := by rw [IntWalk.i64_in _ (by omega)]; omega
      have hm2 : IntKind.i64.wrap ((m : Int) + 1 - 1) = (m : Int) := by rw [IntWalk.i64_in _ (by omega)]; omega
      have hm3 : IntKind.i64.wrap (m : Int) = (m : Int) := IntWalk.i64_in _ (by omega)
      have hm4 : (0 : Int) ≤ (m : Int) := by omega
      have hm5 : (m : Int) ≤ (cj : Int) := by omega
      have hlcm : ∀ k, k < m → (row.getD k []).length = O.length := fun k hk => hlc k (by omega)
      have HM := Lib.hid hm
      have HFA := Lib.hid hlcm
      have HFB : Hid (m ≤ row.length) := Lib.hid (by omega)
      have HFC : Hid (wrow.length = O.length ∧ O.length ≤ cw) := Lib.hid ⟨hlw, by omega⟩
      have HRJ := Lib.hid hrj
      have HRW := Lib.hid hrw
      rw [← hm] at HSJ
      have hmb : m ≤ 6 := by omega
      clear hm hlr hlw hlc hlcm hnr hnw hrj hrw hrow hwow
      obtain ⟨bx, x0, x1, x2⟩ := BX.out.c3
      subst hA2 hA1
      go_wp2_with (fail)
      have own9 : Hid (spII.own wr (fun _ => False) (.slice none 0 0) (Num.ptR row a b 0)) := Lib.hid (spL_nil _ _ _ _)
      generalize hWR : wr = W8 at *
      clear hWR
      go_loopw [9, 36] (fun s6 s7 wr => ∃ (k : Nat) (S3 : Nat → Prop), s7 = .int .i64 (k : Int) ∧ k ≤ m ∧ Hid (spII.own wr S3 s6 (Num.ptR row a b k)) ∧ Hid (∀ k, S3 k → W8.heap.size ≤ k) ∧ Below W8.heap.size W8 wr) (fun _ s7 _ => m - (intOf s7).toNat)
      case atStart => exact ⟨0, _, rfl, by omega, own9, Lib.hid (fun k hk => hk.elim), Below.refl _ _⟩
      case round =>
        clear own9
        obtain ⟨k, S3, rfl, hk, own, hS, be8⟩ := hrel
        by_cases hlk : k < m
        · have k0 : (0 : Int) ≤ (k : Int) := by omega
          have k1 : (k : Int) < (m : Int) := by omega
          have k2 : IntKind.i64.wrap ((k : Int) + 1) = (k : Int) + 1 := IntWalk.i64_in _ (by omega)
          obtain ⟨gq, oq, Bq, cq, hBj, hgq, hcq, -, hrq, hkq⟩ := (HRJ.out.below' be8) k (by have := HFB.out; omega)
          have hql := HFA.out k hlk
          rw [hql] at hcq hkq
          have hRQ := rdI_part (a := a) (b := b) hrq (by rw [hql]; exact hkq)
          have q1 : (b : Int) ≤ (cq : Int) := by omega
          have q2 : (a : Int) ≤ (cq : Int) := by omega
          rw [if_neg (by omega : ¬ cq = a)] at hRQ
          have HCL := Lib.hid (cloneI_any _ (cq - a) (Num.ptV a b (row.getD k [])) wr hRQ (by have := Num.ptV_le a b (row.getD k []) (by omega); omega))
          rw [Num.ptV_len (by rw [hql]; exact hb)] at HCL
          have HSK : Hid (Num.ptR row a b (k + 1) = Num.ptR row a b k ++ [Num.ptV a b (row.getD k [])]) := Lib.hid rfl
          have hlr : (Num.ptR row a b k).length ≤ 1000000 := by rw [Num.ptR_len]; omega
          generalize Num.ptR row a b k = rs at *
          generalize Num.ptV a b (row.getD k []) = un at *
          clear hrq hRQ hql
          subst hBj
          go_wp2_with (fail)
          refine HCL.out.mono ?_; rintro e w5 ⟨u5, rfl, ow5, hb5⟩
          obtain ⟨A6, n6, c6, rfl, e6⟩ := ow5.formN
          have HPA := spII.own_below own.out hb5
          have HPB := apart_row own.out ow5
          have HPC := spI_of ow5
          have L5 := bstep be8 be8.size hb5
          go_wp2_with (first | (at_builtin; refine wpList_push (s := spI) (nul := []) w5 rfl _ _ 25 24 rfl Try.underlying25 infoII S3 (fun k => (Value.slice A6 n6 c6).ownBlock = some k) u9 (.slice A6 n6 c6) rs un rfl rfl HPA HPC rfl HPB hlr ?_; intro v9 w9 S9 own9 hS9 ch9 fm9))
          have HO9 : Hid (spII.own w9 S9 v9 (Num.ptR row a b (k + 1))) := Lib.hid (by rw [HSK.out]; exact own9)
          have L9 := bstepS L5 L5.size hS.out ch9
          have HS9 : Hid (∀ k, S9 k → W8.heap.size ≤ k) := Lib.hid fun q hq => by
            rcases hS9 q hq with h | h | h
            · exact hS.out q h
            · have := ow5.base_le q h; have := be8.size; omega
            · have := L5.size; omega
          go_wp2_with (fail)
          exact ⟨⟨k + 1, S9, by first | rfl | go_num | (congr 1; omega) | (simp; omega), by omega, HO9, HS9, L9⟩, by simp [intOf]; omega⟩
        · have hge : ¬ ((k : Int) < (m : Int)) := by omega
          obtain rfl : k = m := by omega
          generalize hRK : Num.ptR row a b k = rk at *
          obtain ⟨A6, c6, e6, -⟩ := spII.own_rd own.out
          obtain ⟨n6, hn6⟩ : ∃ n6, rk.length = n6 := ⟨_, rfl⟩
          rw [hn6] at e6
          subst e6
          have HRK := Lib.hid hRK
          clear hn6 hRK
          have PBx := PB.out.below be8
          have BXx := BX.out.below be8
          obtain ⟨bl, x0, x1, x2⟩ := PBx.box.c3
          obtain ⟨bx, p0, p1, p2⟩ := BXx.c3
          have fr := PBx.box.free 1
          have hgw3 := Nat.lt_of_lt_of_le hgw be8.size
          have hcw3 : wr.cell? ⟨gw, ow + i, none⟩ = some (.slice Bw nw cw) := by rw [be8.cell hgw]; exact hcw
          have hRW3 := rdI_part (a := a) (b := b) ((HRW.out.below' be8).below' (Below.refl _ _).drew) (by have := HFC.out; rw [this.1]; exact this.2 : wrow.length ≤ cw)
          have hnwb : (b : Int) ≤ (cw : Int) := by have := HFC.out; omega
          have hnwa : (a : Int) ≤ (cw : Int) := by omega
          have HCW := Lib.hid (cloneI_any _ (cw - a) (Num.ptV a b wrow) wr.drew hRW3 (by have := Num.ptV_le a b wrow (by have := HFC.out; omega); omega))
          rw [Num.ptV_len (by have := HFC.out; omega)] at HCW
          generalize Num.ptV a b wrow = wv at *
          have HBE := Lib.hid be8
          have HPBx := Lib.hid PBx
          have HBXx := Lib.hid BXx
          clear hRW3 PBx BXx
          go_wp2_with (fail)
          go_region_law (first
            | (go_simp; go_at_call 69; refine HCW.out.mono ?_; rintro e w3 ⟨u3, rfl, o3, hb3⟩; obtain ⟨A3, n3, c3, rfl, e3⟩ := o3.formN; have L3 : Below wr.heap.size wr w3 := (Below.refl _ _).drew.trans hb3; have SM3 : w3.cell? ⟨b4, 1, none⟩ = some (.slice A1' (i - a) c1') := (by rw [L3.cell bl]; exact x1); have HPB3 := Lib.hid (HPBx.out.below L3); have HPA := HPB3.out.o1; have HPC := spI_of o3; have HPB : ∀ k, S1 k → ¬ ((Value.slice A3 n3 c3).ownBlock = some k) := (fun k h1 h2 => by have := spII.own_lt HPBx.out.o1 h1; have := World.ownsRow.lt o3 k h2; simp only [World.size_drew] at this; omega); have t3 : b4 < w3.heap.size := Nat.lt_of_lt_of_le bl L3.size)
            | (refine step_push (s := spI) (nul := []) w3 rfl (.tmp 50) (.tmp 60) 25 24 rfl Try.underlying25 infoII S1 (fun k => (Value.slice A3 n3 c3).ownBlock = some k) (.slice A1' (i - a) c1') (.slice A3 n3 c3) ws wv rfl rfl HPA HPC rfl HPB hlW' ?_; intro v7 w7 S7 own7 hS7 ch7 fm7; obtain ⟨A7, c7, rfl⟩ := fm7; have SM7 : w7.cell? ⟨b4, 1, none⟩ = some (.slice A1' (i - a) c1') := (by have h9 := (HPB3.out.box.chg ch7 (fun hh => (HPB3.out.s1 _ hh).2 rfl)).cell 1 (by simp); exact h9); have SF7 : w7.frozen? ⟨b4, 1, none⟩ = false := (HPB3.out.box.chg ch7 (fun hh => (HPB3.out.s1 _ hh).2 rfl)).free 1))
          all_goals
            have CH8 : ChgS S1 W8 w7 := ((ChgS.of_below HBE.out).trans (ChgS.of_below L3)).trans ch7
            have PB8 := PB.out.putW CH8 own7 (fun k hk => by
              have hq1 := HBE.out.size
              have hq2 := L3.size
              rcases hS7 k hk with h | h | h
              · exact .inl h
              · exact .inr (by have := (World.ownsRow.lt o3 k h).1; simp only [World.size_drew] at this; omega)
              · exact .inr (by omega))
            have L8 := (bstepS bel Z (fun k hk => by have := PB.out.s1 k hk; omega) CH8).setCell (p := ⟨b4, 1, none⟩) (by simp; omega) (.slice A7 (ws.length + 1) c7)
            have BR8 := (BR.out.chg CH8 (fun hh => by have := PB.out.s1 _ hh; omega)).other (p := ⟨b4, 1, none⟩) (by simp; omega) (.slice A7 (ws.length + 1) c7)
            have BX8 := (BX.out.chg CH8 (fun hh => by have := PB.out.s1 _ hh; omega)).other (p := ⟨b4, 1, none⟩) (by simp; omega) (.slice A7 (ws.length + 1) c7)
            have hb8 := PB.out.box.lt
            have hB8 := PB.out.hB
            have OW8 : spII.own (w7.setCell ⟨b4, 1, none⟩ (.slice A7 (ws.length + 1) c7)) S3 (.slice A6 n6 c6) rk := spII.own_set (spII.own_chg (spII.own_below own.out L3) ch7 (fun k h1 h2 => by have := spII.own_lt PB.out.o1 h2; have := hS.out k h1; omega)) (p := ⟨b4, 1, none⟩) (fun hh => by have h9 : W8.heap.size ≤ b4 := hS.out _ hh; omega) _
            have HS3 : Hid (∀ k, S3 k → ¬ (Value.slice A9 n9 c9).ownBlock = some k ∧ ¬ S7 k ∧ z0 ≤ k ∧ k ≠ b4) := Lib.hid fun k hk => by
              have h1 := hS.out k hk
              have h2 := spII.own_lt own.out hk
              have hq2 := L3.size
              refine ⟨fun h => by have := spI.own_lt PB.out.o0 h; omega, fun h => ?_, by omega, by omega⟩
              rcases hS7 k h with h3 | h3 | h3
              · have := spII.own_lt PB.out.o1 h3; omega
              · have := (World.ownsRow.lt o3 k h3).1; simp only [World.size_drew] at this; omega
              · omega
            have HPD : ∀ k, S2 k → ¬ S3 k := fun k h1 h2 => by have := spIII.own_lt PB.out.o2 h1; have := hS.out k h2; omega
            have HPB8 := Lib.hid PB8
            have HBR8 := Lib.hid BR8
            have HBX8 := Lib.hid BX8
            have HOW8 := Lib.hid OW8
            clear PB8 BR8 BX8 CH8 own7 ch7 hS7 SM7 SF7 PB BR BX HPB3 HPA HPC HPB o3 L3 SM3 bel x0 x1 x2 fr bl t3 OW8 own hS be8 HBE HPBx HBXx HCW p0 p1 p2 bx hgw3 hcw3 hb3
            obtain ⟨W9, hW9⟩ : ∃ X, w7.setCell ⟨b4, 1, none⟩ (.slice A7 (ws.length + 1) c7) = X := ⟨_, rfl⟩
            rw [hW9] at HPB8 HBR8 HBX8 L8 HOW8
            obtain ⟨bl, x0, x1, x2⟩ := HPB8.out.box.c3
            have fr := HPB8.out.box.free 2
            have HPA := HPB8.out.o2
            have HPC := HOW8.out
            go_wp2_with (first | (at_builtin; refine wpList_push (s := spII) (nul := []) W9 rfl _ _ 26 25 rfl Try.underlying26 infoIII S2 S3 (.slice A2' (i - a) c2') (.slice A6 n6 c6) js rk rfl rfl HPA HPC rfl HPD hlJ' ?_; intro v9 w9 S9 own9 hS9 ch9 fm9; obtain ⟨A8, c8, rfl⟩ := fm9; obtain ⟨SB9, SM90, SM91, SM9⟩ := (HPB8.out.box.chg ch9 (fun hh => (HPB8.out.s2 _ hh).2 rfl)).c3; have SF9 : w9.frozen? ⟨b4, 2, none⟩ = false := (HPB8.out.box.chg ch9 (fun hh => (HPB8.out.s2 _ hh).2 rfl)).free 2))
            have PB10 := HPB8.out.putJ' ch9 own9 (fun k hk => by
              rcases hS9 k hk with h | h | h
              · exact .inl h
              · exact .inr (HS3.out k h)
              · exact .inr ⟨fun hh => by have := spI.own_lt HPB8.out.o0 hh; omega, fun hh => by have := spII.own_lt HPB8.out.o1 hh; omega, by have := HPB8.out.box.lt; have := HPB8.out.hB; omega, by have := HPB8.out.box.lt; omega⟩)
            have L10 := (bstepS L8 L8.size (fun k hk => by have := HPB8.out.s2 k hk; omega) ch9).setCell (p := ⟨b4, 2, none⟩) (by simp; omega) (.slice A8 (js.length + 1) c8)
            have BR10 := (HBR8.out.chg ch9 (fun hh => by have := HPB8.out.s2 _ hh; omega)).other (p := ⟨b4, 2, none⟩) (by simp; omega) (.slice A8 (js.length + 1) c8)
            have BX10 := (HBX8.out.chg ch9 (fun hh => by have := HPB8.out.s2 _ hh; omega)).other (p := ⟨b4, 2, none⟩) (by simp; omega) (.slice A8 (js.length + 1) c8)
            rw [← HSW.out, ← HSJ.out] at PB10
            have HPB10 := Lib.hid PB10
            have HBR10 := Lib.hid BR10
            have HBX10 := Lib.hid BX10
            clear PB10 BR10 BX10
            go_wp2_with (fail)
            exact ⟨⟨i + 1, _, _, _, _, by go_num, by omega, by omega, HPB10, HBR10, HBX10, L10⟩, by simp [intOf]; omega⟩
    · have hge : ¬ ((i : Int) < (b : Int)) := by omega
      obtain rfl : i = b := by omega
      obtain ⟨-, ⟨A1', c1', e1⟩, A2', c2', e2⟩ := PB.out.forms
      rw [Num.ptW_len] at e1
      rw [Num.ptJ_len] at e2
      subst e1 e2
      obtain ⟨bl, x0, x1, x2⟩ := PB.out.box.c3
      obtain ⟨br, r0, r1, r2⟩ := BR.out.c3
      obtain ⟨f0, f1, f2⟩ := BR.out.f3
      have hB8 := PB.out.hB
      have ne1 : ¬ (w.heap.size + 1 = b4) := by omega
      have ne2 : ¬ (b4 = w.heap.size + 1) := by omega
      have HPB := Lib.hid PB.out
      clear PB BR BX
      go_wp2_with (fail)
      refine bodyPost_ret (v := .agg #[.slice A9 n9 c9, .slice A1' (i - a) c1', .slice A2' (i - a) c2']) (by simp [results, Try.results59, go_sem, br, r0, r1, r2]) rfl ?_
      have ow := HPB.out.own
      have bs := HPB.out.base
      have nb : ¬ ((fun k => (Value.slice A9 n9 c9).ownBlock = some k ∨ S1 k ∨ S2 k) (w.heap.size + 1)) := fun hh => by have := bs _ hh; omega
      refine ⟨_, _, rfl, ?_, fun k hk => by have := bs k hk; omega, ?_⟩
      · have e : partP O W J a i = ⟨OV, Num.ptW W a i (i - a), Num.ptJ J a i (i - a)⟩ := by unfold partP; rw [HOV.out]
        rw [e]
        exact spPres.own_set (spPres.own_set (spPres.own_set ow (p := ⟨w.heap.size + 1, 0, none⟩) nb _) (p := ⟨w.heap.size + 1, 1, none⟩) nb _) (p := ⟨w.heap.size + 1, 2, none⟩) nb _
      · exact ((bel.setCell (p := ⟨w.heap.size + 1, 0, none⟩) (by simp) _).setCell (p := ⟨w.heap.size + 1, 1, none⟩) (by simp) _).setCell (p := ⟨w.heap.size + 1, 2, none⟩) (by simp) _
end Go.Proofs.Ytahmhdpgdhfjnaa
namespace Go.Proofs.Ytahmhdpgdhfjnaa
open Go.RowKit
set_option linter.unusedVariables false
set_option linter.unusedSimpArgs false

def Pres.tpC (p : Pres) (I : Int) : Int := if p.ok = true then (if 0 ≤ I ∧ I ≤ (p.O.length : Int) then 0 else 2) else 1
def rTailPresentation (p : Pres) (I : Int) : Pres := if p.tpC I = 0 then partP p.O p.W p.J I.toNat p.O.length else noPres
def cTailPresentation (p : Pres) (I : Int) : Int := p.tpC I
theorem noPres_set' {w W : World} (L : Below w.heap.size w W) {b : Nat} (hb : w.heap.size ≤ b) (c : Int) (u0 u1 u2 : Value) : MadeC spPres noPres c w (.returned (.tuple #[.agg #[.slice none 0 0, .slice none 0 0, .slice none 0 0], .int .i64 c])) (((W.setCell ⟨b, 0, none⟩ u0).setCell ⟨b, 1, none⟩ u1).setCell ⟨b, 2, none⟩ u2) :=
  MadeC.noPres (((L.setCell (p := ⟨b, 0, none⟩) hb _).setCell (p := ⟨b, 1, none⟩) hb _).setCell (p := ⟨b, 2, none⟩) hb _)
/-- A presentation of new memory, stored into the result's box. -/
theorem madeC_set {w W : World} {u0 u1 u2 : Value} {S : Nat → Prop} {x : Pres} {b : Nat} (own : spPres.own W S (.agg #[u0, u1, u2]) x) (hS : ∀ k, S k → w.heap.size ≤ k ∧ k ≠ b) (hc : spPres.cnt x ≤ 1000000000) (L : Below w.heap.size w W) (hb : w.heap.size ≤ b) (c : Int) (y0 y1 y2 : Value) :
    MadeC spPres x c w (.returned (.tuple #[.agg #[u0, u1, u2], .int .i64 c])) (((W.setCell ⟨b, 0, none⟩ y0).setCell ⟨b, 1, none⟩ y1).setCell ⟨b, 2, none⟩ y2) := by
  have nb : ¬ S b := fun hh => (hS b hh).2 rfl
  refine ⟨_, S, rfl, ?_, fun k hk => (hS k hk).1, hc, ?_⟩
  · exact spPres.own_set (spPres.own_set (spPres.own_set own (p := ⟨b, 0, none⟩) nb _) (p := ⟨b, 1, none⟩) nb _) (p := ⟨b, 2, none⟩) nb _
  · exact ((L.setCell (p := ⟨b, 0, none⟩) hb _).setCell (p := ⟨b, 1, none⟩) hb _).setCell (p := ⟨b, 2, none⟩) hb _
theorem isTailIx_any (A0 : Option Addr) (c0 n : Nat) (v1 v2 : Value) (i : Int) (w : World) (f1 : v1.oneCell' = true) (f2 : v2.oneCell' = true) (A1 A2 : Option Addr) (n1 c1 n2 c2 : Nat) (e1 : v1 = .slice A1 n1 c1) (e2 : v2 = .slice A2 n2 c2) :
    Calls Try.prog 58 #[.agg #[.slice A0 n c0, v1, v2], .int .i64 i] w fun e w' => e = .returned (.bool (decide (0 ≤ i ∧ i ≤ (n : Int)))) ∧ Below w.heap.size w w' := by
  subst e1 e2
  have b0 : Below w.heap.size w (w.alloc (.cells #[.slice A0 n c0, .slice A1 n1 c1, .slice A2 n2 c2] 28)) := by go_grown
  obtain ⟨bl, x0, x1, x2⟩ := (Blk.new w [.slice A0 n c0, .slice A1 n1 c1, .slice A2 n2 c2] 28).c3
  by_cases h1 : 0 ≤ i
  · by_cases h2 : i ≤ (n : Int)
    · have HF : Hid (decide (0 ≤ i ∧ i ≤ (n : Int)) = true) := Lib.hid (decide_eq_true ⟨h1, h2⟩)
      go_enter Try.func58, Try.ntmps58
      go_wp2_with (fail)
      go_ret
      exact ⟨by first | rfl | exact ret_b HF.out.symm, b0⟩
    · have HF : Hid (decide (0 ≤ i ∧ i ≤ (n : Int)) = false) := Lib.hid (decide_eq_false fun h => h2 h.2)
      have h2' : decide (i ≤ (n : Int)) = false := decide_eq_false h2
      go_enter Try.func58, Try.ntmps58
      go_wp2_with (fail)
      go_ret
      exact ⟨by first | rfl | exact ret_b HF.out.symm, b0⟩
  · have HF : Hid (decide (0 ≤ i ∧ i ≤ (n : Int)) = false) := Lib.hid (decide_eq_false fun h => h1 h.1)
    have h2' : decide (0 ≤ i) = false := decide_eq_false h1
    go_enter Try.func58, Try.ntmps58
    go_wp2_with (fail)
    go_ret
    exact ⟨by first | rfl | exact ret_b HF.out.symm, b0⟩
set_option maxRecDepth 100000 in
set_option maxHeartbeats 4000000 in
theorem iTailPresentation_ok (v0 : Value) (p : Pres) (I : Int) (w : World) (h0 : PresK w v0 p) (s0 : spPres.sz p ≤ 1048576) : Calls Try.prog 20 #[v0, .int .i64 I] w (MadeC spPres (rTailPresentation p I) (cTailPresentation p I) w) := by
  obtain ⟨O, W, J⟩ := p
  have h0' := h0
  obtain ⟨A0, c0, A1, c1, A2, c2, rfl, ⟨hO, hW, hJ⟩, m0, m1, m2, hc0⟩ := h0
  replace hO : RdI w A0 O := hO
  replace hW : RdWK w A1 W := hW
  replace hJ : RdXM w A2 J := hJ
  replace hc0 : O.length ≤ c0 := hc0
  simp only at h0' m0 ⊢
  have b0 : Below w.heap.size w ((w.alloc (.cells #[.slice A0 O.length c0, .slice A1 W.length c1, .slice A2 J.length c2] 28)).alloc (.cells #[.slice none 0 0, .slice none 0 0, .slice none 0 0] 28)) := by go_grown
  have BX := (Blk.new w [.slice A0 O.length c0, .slice A1 W.length c1, .slice A2 J.length c2] 28).alloc (.cells #[.slice none 0 0, .slice none 0 0, .slice none 0 0] 28)
  have BR : Blk ((w.alloc (.cells #[.slice A0 O.length c0, .slice A1 W.length c1, .slice A2 J.length c2] 28)).alloc (.cells #[.slice none 0 0, .slice none 0 0, .slice none 0 0] 28)) (w.heap.size + 1) [.slice none 0 0, .slice none 0 0, .slice none 0 0] 28 := by
    have := Blk.new (w.alloc (.cells #[.slice A0 O.length c0, .slice A1 W.length c1, .slice A2 J.length c2] 28)) [.slice none 0 0, .slice none 0 0, .slice none 0 0] 28
    simpa using this
  have HI := Lib.hid (iIsPres_any _ ⟨O, W, J⟩ _ (h0'.c.below b0))
  have HT : Hid (∀ W', Calls Try.prog 58 #[.agg #[.slice A0 O.length c0, .slice A1 W.length c1, .slice A2 J.length c2], .int .i64 I] W' fun e w' => e = .returned (.bool (decide (0 ≤ I ∧ I ≤ (O.length : Int)))) ∧ Below W'.heap.size W' w') := Lib.hid fun W' => isTailIx_any A0 c0 O.length _ _ I W' rfl rfl A1 A2 _ c1 _ c2 rfl rfl
  have hz2 : ((w.alloc (.cells #[.slice A0 O.length c0, .slice A1 W.length c1, .slice A2 J.length c2] 28)).alloc (.cells #[.slice none 0 0, .slice none 0 0, .slice none 0 0] 28)).heap.size = w.heap.size + 2 := by simp
  generalize hW0 : ((w.alloc (.cells #[.slice A0 O.length c0, .slice A1 W.length c1, .slice A2 J.length c2] 28)).alloc (.cells #[.slice none 0 0, .slice none 0 0, .slice none 0 0] 28)) = W0 at *
  obtain ⟨bl, x0, x1, x2⟩ := BX.c3
  obtain ⟨br, r0, r1, r2⟩ := BR.c3
  obtain ⟨f0, f1, f2⟩ := BR.f3
  unfold RetB at HI
  cases hk : Pres.ok ⟨O, W, J⟩ with
  | true =>
    rw [hk] at HI
    have hpre : Num.preB O W J = true := hk
    have V := Num.Shp9.of hpre
    have h6 := V.n6
    by_cases hI : 0 ≤ I ∧ I ≤ (O.length : Int)
    · obtain ⟨i, rfl⟩ := Int.eq_ofNat_of_zero_le hI.1
      have hin : i ≤ O.length := by omega
      have hc : Pres.tpC ⟨O, W, J⟩ (i : Int) = 0 := by unfold Pres.tpC; rw [if_pos hk, if_pos hI]
      have HR : Hid (rTailPresentation ⟨O, W, J⟩ (i : Int) = partP O W J i O.length ∧ cTailPresentation ⟨O, W, J⟩ (i : Int) = 0) := Lib.hid ⟨if_pos hc, hc⟩
      have HPO : Hid (∀ W', Below w.heap.size w W' → _) := Lib.hid fun W' hb => partOf_any A0 A1 A2 c0 c1 c2 i O.length O W J W' (hO.below' hb) (hW.below' hb) (hJ.below' hb) V hin (Nat.le_refl _) hc0
      have HCNT := Lib.hid (partP_cnt V (a := i) (Nat.le_refl O.length))
      rw [decide_eq_true hI] at HT
      clear hO hW hJ hpre hk hI hc h0' V
      generalize partP O W J i O.length = y at *
      go_enter Try.func20, Try.ntmps20
      go_wp2_with (fail)
      clear hW0
      refine HI.out.mono ?_; rintro e w1 ⟨rfl, hb1⟩
      have L1 := bstep b0 b0.size hb1
      have BX1 := BX.below hb1
      have BR1 := BR.below hb1
      obtain ⟨bl1, y0, y1, y2⟩ := BX1.c3
      clear HI x0 x1 x2 bl br r0 r1 r2 f0 f1 f2
      go_wp2_with (fail)
      refine (HT.out w1).mono ?_; rintro e w2 ⟨rfl, hb2⟩
      have L2 := bstep L1 L1.size hb2
      have hsz := hb1.size
      have hsz2 := hb2.size
      obtain ⟨bl2, z0, z1, z2⟩ := (BX1.below hb2).c3
      have BR2 := BR1.below hb2
      have HC2 := Lib.hid (HPO.out w2 L2)
      clear HT HPO y0 y1 y2
      go_wp2_with (fail)
      refine HC2.out.mono ?_; rintro e w3 ⟨v, S, rfl, own, hS, hb3⟩
      have L3 := bstep L2 L2.size hb3
      obtain ⟨B0, n0, d0, B1, n1, d1, B2, n2, d2, rfl, -, -, -⟩ := spPres_form (spPres.own_rd own)
      have BR3 := BR2.below hb3
      obtain ⟨br, r0, r1, r2⟩ := BR3.c3
      obtain ⟨f0, f1, f2⟩ := BR3.f3
      have HOWN := Lib.hid own
      clear own HC2 BR1 BR2
      go_wp2_with (fail)
      refine bodyPost_ret (v := .tuple #[.agg #[.slice B0 n0 d0, .slice B1 n1 d1, .slice B2 n2 d2], .int .i64 0]) (by simp [results, Try.results20, go_sem, br, r0, r1, r2]) rfl ?_
      rw [HR.out.1, HR.out.2]
      exact madeC_set HOWN.out (fun k hk => by have := hS k hk; omega) HCNT.out L3 (by omega) _ _ _ _
    · have hc : Pres.tpC ⟨O, W, J⟩ I = 2 := by unfold Pres.tpC; rw [if_pos hk, if_neg hI]
      have HR : Hid (rTailPresentation ⟨O, W, J⟩ I = noPres ∧ cTailPresentation ⟨O, W, J⟩ I = 2) := Lib.hid ⟨by unfold rTailPresentation; rw [if_neg (by rw [hc]; omega)], hc⟩
      rw [decide_eq_false hI] at HT
      clear hO hW hJ hpre hk hI hc h0' V
      go_enter Try.func20, Try.ntmps20
      go_wp2_with (fail)
      clear hW0
      refine HI.out.mono ?_; rintro e w1 ⟨rfl, hb1⟩
      have L1 := bstep b0 b0.size hb1
      obtain ⟨bl1, y0, y1, y2⟩ := (BX.below hb1).c3
      have BR1 := BR.below hb1
      clear HI x0 x1 x2 bl br r0 r1 r2 f0 f1 f2
      go_wp2_with (fail)
      refine (HT.out w1).mono ?_; rintro e w2 ⟨rfl, hb2⟩
      have L2 := bstep L1 L1.size hb2
      have BR2 := BR1.below hb2
      obtain ⟨br, r0, r1, r2⟩ := BR2.c3
      obtain ⟨f0, f1, f2⟩ := BR2.f3
      go_wp2_with (fail)
      refine bodyPost_ret (v := .tuple #[.agg #[.slice none 0 0, .slice none 0 0, .slice none 0 0], .int .i64 2]) (by simp [results, Try.results20, go_sem, br, r0, r1, r2]) rfl ?_
      rw [HR.out.1, HR.out.2]
      exact noPres_set' L2 (by omega) _ _ _ _
  | false =>
    rw [hk] at HI
    have hc : Pres.tpC ⟨O, W, J⟩ I = 1 := by unfold Pres.tpC; rw [if_neg (by rw [hk]; simp)]
    have HR : Hid (rTailPresentation ⟨O, W, J⟩ I = noPres ∧ cTailPresentation ⟨O, W, J⟩ I = 1) := Lib.hid ⟨by unfold rTailPresentation; rw [if_neg (by rw [hc]; omega)], hc⟩
    clear hO hW hJ hk hc h0'
    go_enter Try.func20, Try.ntmps20
    go_wp2_with (fail)
    clear hW0
    refine HI.out.mono ?_; rintro e w1 ⟨rfl, hb1⟩
    have L1 := bstep b0 b0.size hb1
    have BR1 := BR.below hb1
    clear HI x0 x1 x2 bl br r0 r1 r2 f0 f1 f2
    obtain ⟨br, r0, r1, r2⟩ := BR1.c3
    obtain ⟨f0, f1, f2⟩ := BR1.f3
    go_wp2_with (fail)
    refine bodyPost_ret (v := .tuple #[.agg #[.slice none 0 0, .slice none 0 0, .slice none 0 0], .int .i64 1]) (by simp [results, Try.results20, go_sem, br, r0, r1, r2]) rfl ?_
    rw [HR.out.1, HR.out.2]
    exact noPres_set' L1 (by omega) _ _ _ _
end Go.Proofs.Ytahmhdpgdhfjnaa
