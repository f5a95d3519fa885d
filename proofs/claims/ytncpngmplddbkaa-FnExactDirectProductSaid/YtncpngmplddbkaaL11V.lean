/- Presentations: rows of a box's conjugates replaced; appends of whole numbers in a region; what is put in row by row. -/
import Derived.Test.YtncpngmplddbkaaL11U
namespace Go.Proofs.Ytncpngmplddbkaa
open Go.RowKit
set_option linter.unusedVariables false
set_option linter.unusedSimpArgs false

theorem spL_in2 {α : Type} {E : TypeId} {s : Sp α} {nul : α} {w : World} {S : Nat → Prop} {v : Value} {xs : List α} (h : (spL E s nul).own w S v xs) {j : Nat} (hj : j < xs.length) :
    ∃ g c u T, v = .slice (some ⟨g, 0, none⟩) xs.length c ∧ S g ∧ g < w.heap.size ∧ w.cell? ⟨g, j, none⟩ = some u ∧ w.frozen? ⟨g, j, none⟩ = false ∧ s.own w T u (xs.getD j nul) ∧ (∀ k, T k → S k) ∧ ¬ T g ∧
      (∀ (w2 : World) (x' : α) (T' : Nat → Prop), ChgS T w w2 → s.own w2 T' u x' → (∀ k, T' k → T k ∨ w.heap.size ≤ k) → (spL E s nul).own w2 (fun k => S k ∨ T' k) v (xs.set j x')) := by
  obtain ⟨vs, T, h1, h2, h3, h4, h5, h6⟩ := h
  have hvl : vs.length = xs.length := by have := h1.1; simpa using this
  have h1' := h1
  rcases h1.2 with ⟨hv, h0⟩ | ⟨g, c, cur, hv, hb, hg, r⟩
  · omega
  · subst hv
    have hS := h5 g rfl
    have hgT : ∀ i, i < xs.length → ¬ T i g := fun i hi hT => (h4 i hi g hT).2 rfl
    refine ⟨g, c, vs.getD j undef, T j, rfl, hS, h6 g hS, ?_, h1'.frozenAt j, h2 j hj, fun k hk => (h4 j hj k hk).1, hgT j hj, fun w2 x' T' hc hx hT' => ?_⟩
    · rw [h1'.cellAt j (by omega), List.getD_eq_getElem?_getD, List.getElem?_eq_getElem (by omega)]
      rfl
    · have far : ∀ i, i < xs.length → i ≠ j → ∀ k, T i k → ¬ T j k := fun i hi e k h7 h8 => by
        rcases Nat.lt_or_gt_of_ne e with h9 | h9
        · exact h3 i j h9 hj k h7 h8
        · exact h3 j i h9 hi k h8 h7
      have lo : ∀ i, i < xs.length → ∀ k, T i k → k < w.heap.size := fun i hi k hk => h6 k (h4 i hi k hk).1
      have far' : ∀ i, i < xs.length → i ≠ j → ∀ k, T i k → ¬ T' k := fun i hi e k h7 h8 => by
        rcases hT' k h8 with h9 | h9
        · exact far i hi e k h7 h9
        · have := lo i hi k h7; omega
      refine ⟨vs, fun i => if i = j then T' else T i, by rw [List.length_set]; exact ownsRow_keep h1' fun k e => hc.block k (h6 k (h5 k e)) (fun hT => by
          have e' : some g = some k := e
          simp only [Option.some.injEq] at e'
          subst e'
          exact hgT j hj hT), fun i hi => ?_, fun i i' hii hi' k => ?_, fun i hi k hk => ?_, fun k e => .inl (h5 k e), fun k hk => ?_⟩
      · rw [List.length_set] at hi
        rw [getD_set _ _ _ _ _ hj]
        show s.own _ (if i = j then T' else T i) _ _
        by_cases e : i = j
        · rw [if_pos e, if_pos e, e]; exact hx
        · rw [if_neg e, if_neg e]
          exact s.own_chg (h2 i hi) hc (far i hi e)
      · rw [List.length_set] at hi'
        show (if i = j then T' else T i) k → ¬ (if i' = j then T' else T i') k
        by_cases e : i = j
        · rw [if_pos e, if_neg (by omega)]
          exact fun a b => far' i' hi' (by omega) k b a
        · rw [if_neg e]
          by_cases e2 : i' = j
          · rw [if_pos e2]
            exact far' i (by omega) e k
          · rw [if_neg e2]
            exact h3 i i' hii hi' k
      · rw [List.length_set] at hi
        replace hk : (if i = j then T' else T i) k := hk
        by_cases e : i = j
        · rw [if_pos e] at hk
          refine ⟨.inr hk, fun e' => ?_⟩
          have e3 : some g = some k := e'
          simp only [Option.some.injEq] at e3
          subst e3
          rcases hT' g hk with h9 | h9
          · exact hgT j hj h9
          · have := h6 g hS; omega
        · rw [if_neg e] at hk
          exact ⟨.inl (h4 i hi k hk).1, (h4 i hi k hk).2⟩
      · rcases hk with hk | hk
        · exact Nat.lt_of_lt_of_le (h6 k hk) hc.size
        · exact s.own_lt hx hk
section
variable {B b : Nat} {w : World} {O : List Int} {W : List (List Int)} {J : List (List (List Int))} {v0 v1 v2 : Value} {S0 S1 S2 : Nat → Prop}
/-- A row of the powers, and its place. -/
theorem PBox.rowW (h : PBox B w b O W J v0 v1 v2 S0 S1 S2) {j : Nat} (hj : j < W.length) :
    ∃ g c ug, v1 = .slice (some ⟨g, 0, none⟩) W.length c ∧ B ≤ g ∧ g ≠ b ∧ g < w.heap.size ∧ w.cell? ⟨g, j, none⟩ = some ug ∧ w.frozen? ⟨g, j, none⟩ = false ∧
      ∀ (w2 : World) (u : Value) (x : List Int) (T : Nat → Prop), Below w.heap.size w w2 → spI.own w2 T u x → (∀ k, T k → w.heap.size ≤ k) → ∃ S1', PBox B (w2.setCell ⟨g, j, none⟩ u) b O (W.set j x) J v0 v1 v2 S0 S1' S2 := by
  obtain ⟨g, c, ug, Tg, eg, hSg, hgl, hgc, hgf, -, -, -⟩ := spL_own_at h.o1 hj
  subst eg
  have := h.s1 g hSg
  exact ⟨g, c, ug, rfl, this.1, this.2, hgl, hgc, hgf, fun w2 u x T hb hu hT => ⟨_, h.row hj hb hu hT⟩⟩
/-- A row of one of the lists of conjugates, and its place. -/
theorem PBox.rowJ (h : PBox B w b O W J v0 v1 v2 S0 S1 S2) {i j : Nat} (hi : i < J.length) (hj : j < (J.getD i []).length) :
    ∃ g c g1 c1 ug, v2 = .slice (some ⟨g, 0, none⟩) J.length c ∧ B ≤ g1 ∧ g1 ≠ b ∧ g < w.heap.size ∧ g1 < w.heap.size ∧ w.cell? ⟨g, i, none⟩ = some (.slice (some ⟨g1, 0, none⟩) (J.getD i []).length c1) ∧ w.cell? ⟨g1, j, none⟩ = some ug ∧ w.frozen? ⟨g1, j, none⟩ = false ∧
      ∀ (w2 : World) (u : Value) (x : List Int) (T : Nat → Prop), Below w.heap.size w w2 → spI.own w2 T u x → (∀ k, T k → w.heap.size ≤ k) → ∃ S2', PBox B (w2.setCell ⟨g1, j, none⟩ u) b O W (J.set i ((J.getD i []).set j x)) v0 v1 v2 S0 S1 S2' := by
  obtain ⟨g, c, u, Ti, e, hSg, hgl, hgc, hgf, oT, hTS, hTg, hput⟩ := spL_in2 h.o2 hi
  obtain ⟨g1, c1, ug, Tg, e1, hT1, hgl1, hgc1, hgf1, -, -, -⟩ := spL_own_at oT hj
  subst e e1
  have hS1 := hTS g1 hT1
  have hgb := h.s2 g1 hS1
  have hB := h.hB
  have hlt := h.box.lt
  refine ⟨g, c, g1, c1, ug, rfl, hgb.1, hgb.2, hgl, hgl1, hgc, hgc1, hgf1, fun w2 u x T hb hu hT => ?_⟩
  obtain ⟨-, -, o1, gr⟩ := spL_put oT hj hb hu hT
  have ch : ChgS Ti w (w2.setCell ⟨g1, j, none⟩ u) := (ChgS.of_below hb).trans (ChgS.of_grown gr (fun k hk => by simp only [Option.some.injEq] at hk; subst hk; exact hT1))
  have o2 := hput _ _ _ ch o1 (fun k hk => by
    rcases hk with hk | hk
    · exact .inl hk
    · exact .inr (hT k hk))
  refine ⟨_, (h.box.below hb).other (p := ⟨g1, j, none⟩) (fun e => hgb.2 e.symm) u, spI.own_set (spI.own_below h.o0 hb) (p := ⟨g1, j, none⟩) (fun hh => h.d02 g1 hh hS1) _, spII.own_set (spII.own_below h.o1 hb) (p := ⟨g1, j, none⟩) (fun hh => h.d12 g1 hh hS1) _, o2, h.d01, ?_, ?_, h.s0, h.s1, ?_, hB⟩
  · intro k h1 h2
    rcases h2 with h3 | h3 | h3
    · exact h.d02 k h1 h3
    · exact h.d02 k h1 (hTS k h3)
    · have := spI.own_lt h.o0 h1; have := hT k h3; omega
  · intro k h1 h2
    rcases h2 with h3 | h3 | h3
    · exact h.d12 k h1 h3
    · exact h.d12 k h1 (hTS k h3)
    · have := spII.own_lt h.o1 h1; have := hT k h3; omega
  · intro k h1
    rcases h1 with h3 | h3 | h3
    · exact h.s2 k h3
    · exact h.s2 k (hTS k h3)
    · have := hT k h3; omega
end
/-- A presentation of new memory, stored into an older box. -/
theorem PBox.set3 {B b : Nat} {w : World} {S : Nat → Prop} {v0 v1 v2 u0 u1 u2 : Value} {x : Pres} (h : spPres.own w S (.agg #[v0, v1, v2]) x) (hS : ∀ k, S k → B ≤ k ∧ k ≠ b) (hb : Blk w b [u0, u1, u2] 29) (hB : B ≤ b) :
    ∃ S0 S1 S2, PBox B (((w.setCell ⟨b, 0, none⟩ v0).setCell ⟨b, 1, none⟩ v1).setCell ⟨b, 2, none⟩ v2) b x.O x.W x.J v0 v1 v2 S0 S1 S2 := by
  obtain ⟨y0, y1, y2, T0, T1, T2, e, o0, o1, o2, d01, d02, d12, s0, s1, s2, hl⟩ := h
  simp only [Value.agg.injEq, Array.mk.injEq, List.cons.injEq, and_true] at e
  obtain ⟨rfl, rfl, rfl⟩ := e
  have n0 : ¬ T0 b := fun hh => (hS b (s0 b hh)).2 rfl
  have n1 : ¬ T1 b := fun hh => (hS b (s1 b hh)).2 rfl
  have n2 : ¬ T2 b := fun hh => (hS b (s2 b hh)).2 rfl
  have h3 := ((hb.set 0 v0).set 1 v1).set 2 v2
  exact ⟨T0, T1, T2, by simpa using h3, spI.own_set (spI.own_set (spI.own_set o0 (p := ⟨b, 0, none⟩) n0 _) (p := ⟨b, 1, none⟩) n0 _) (p := ⟨b, 2, none⟩) n0 _, spII.own_set (spII.own_set (spII.own_set o1 (p := ⟨b, 0, none⟩) n1 _) (p := ⟨b, 1, none⟩) n1 _) (p := ⟨b, 2, none⟩) n1 _, spIII.own_set (spIII.own_set (spIII.own_set o2 (p := ⟨b, 0, none⟩) n2 _) (p := ⟨b, 1, none⟩) n2 _) (p := ⟨b, 2, none⟩) n2 _, d01, d02, d12, fun k hk => hS k (s0 k hk), fun k hk => hS k (s1 k hk), fun k hk => hS k (s2 k hk), hB⟩
theorem PBox.new3 {B : Nat} {w : World} {S : Nat → Prop} {v0 v1 v2 : Value} {x : Pres} (h : spPres.own w S (.agg #[v0, v1, v2]) x) (hS : ∀ k, S k → B ≤ k) (hB : B ≤ w.heap.size) :
    ∃ S0 S1 S2, PBox B (w.alloc (.cells #[v0, v1, v2] 29)) w.heap.size x.O x.W x.J v0 v1 v2 S0 S1 S2 := by
  obtain ⟨y0, y1, y2, S0, S1, S2, e, h⟩ := PBox.of h hS hB
  simp only [Value.agg.injEq, Array.mk.injEq, List.cons.injEq, and_true] at e
  obtain ⟨rfl, rfl, rfl⟩ := e
  exact ⟨S0, S1, S2, h⟩
theorem trivP_lens {w : World} {O : List Int} {A4 A5 A6 : Option Addr} {n4 n5 n6 c4 c5 c6 : Nat} (q0 : spI.rd w (.slice A4 n4 c4) (trivP O).O) (q1 : spII.rd w (.slice A5 n5 c5) (trivP O).W) (q2 : spIII.rd w (.slice A6 n6 c6) (trivP O).J) : n4 = O.length ∧ n5 = O.length ∧ n6 = O.length := by
  obtain ⟨_, _, e0, _⟩ := q0
  obtain ⟨_, _, e1, _⟩ := q1
  obtain ⟨_, _, e2, _⟩ := q2
  simp only [Value.slice.injEq] at e0 e1 e2
  refine ⟨e0.2.1, ?_, ?_⟩
  · rw [e1.2.1]; show (List.replicate _ _).length = _; rw [List.length_replicate]
  · rw [e2.2.1]; exact Num.trivJ_len _ _
theorem Num.pJ_atlen (sh : List Int → List Int) (first : Nat) (part J : List (List (List Int))) (t : Nat) (h : first + t ≤ J.length) (j : Nat) : ((Num.pJ sh first part J t).getD j []).length = (J.getD j []).length := by
  rw [Num.pJ_at _ _ _ _ _ h]
  by_cases e : first ≤ j ∧ j < first + t
  · rw [if_pos e, Num.pW_len]
  · rw [if_neg e]
theorem Num.pW_step (sh : List Int → List Int) (first : Nat) (part W : List (List Int)) (i : Nat) : Num.pW sh first part W (i + 1) = (Num.pW sh first part W i).set (first + i) (sh (part.getD i [])) := rfl
theorem step_app_ints {ops : Array Oper} {o : Oper} {a : Act} {K : Act → World → Prop} {Q : Exit → Act → World → Prop} {E : Prop} (w : World) (hgd : o.guard = none) (s x : Operand)
    (ho : o.op = .call { callee := .builtin .append, args := #[s, x], argTypes := #[22, 22] })
    (base : Nat) (v : Value) (xs ys : List Int) (hs : a.eval s = v) (hown : OwnI w base v xs) (A : Option Addr) (m c : Nat) (hm : ys.length = m) (hx : a.eval x = .slice A m c) (hr : RdI w A ys)
    (h63 : xs.length + ys.length ≤ 1000000000) (hbase : base ≤ w.heap.size)
    (h : ∀ v' w', OwnI w' base v' (xs ++ ys) → w.grownBy w' v.ownBlock → (v'.ownBlock = v.ownBlock ∨ v'.ownBlock = some w.heap.size) → K (a.put o.dst v') w') : if Region.wanted o (yielded ops a.tmps) = true then Oper.wp Try.prog o a w K Q else E := by
  obtain ⟨iT, hi, hz0, hz1, hz2⟩ := info_parts infoI
  refine step_append_list w hgd s x 22 ho base 2 iT (.int .i64 0) 8 Try.underlying22 hi hz0 hz1 hz2 rfl v xs.length (xs.map (Value.int .i64)) hs hown A m c (ys.map (Value.int .i64)) (by simpa using hm) hx hr.cells (oneCell_ints ys) (by unfold maxLen; omega) (by omega) hbase ?_
  intro v' w' h1 h2 h3
  refine h v' w' ?_ h2 h3
  unfold OwnI
  rw [List.length_append, List.map_append, hm]
  exact h1
def Num.jrow (L : List (List (List Int))) (f : Nat) (sh : List Int → List Int) (part : List (List Int)) (j : Nat) : List (List (List Int)) := L.set f (Num.pW sh 0 part (L.getD f []) j)
theorem Num.jrow_zero {L : List (List (List Int))} {f : Nat} (hf : f < L.length) (sh : List Int → List Int) (part : List (List Int)) : Num.jrow L f sh part 0 = L := Num.set_getD L [] f hf
theorem Num.jrow_len (L : List (List (List Int))) (f : Nat) (sh : List Int → List Int) (part : List (List Int)) (j : Nat) : (Num.jrow L f sh part j).length = L.length := List.length_set ..
theorem Num.jrow_at {L : List (List (List Int))} {f : Nat} (hf : f < L.length) (sh : List Int → List Int) (part : List (List Int)) (j : Nat) : (Num.jrow L f sh part j).getD f [] = Num.pW sh 0 part (L.getD f []) j := by
  rw [Num.jrow, Num.getDset _ _ _ _ _ hf, if_pos rfl]
theorem Num.jrow_step {L : List (List (List Int))} {f : Nat} (hf : f < L.length) (sh : List Int → List Int) (part : List (List Int)) (j : Nat) :
    (Num.jrow L f sh part j).set f (((Num.jrow L f sh part j).getD f []).set j (sh (part.getD j []))) = Num.jrow L f sh part (j + 1) := by
  rw [Num.jrow_at hf, Num.jrow, Num.set_set', Num.jrow, Num.pW, Nat.zero_add]
theorem Num.pJ_step (sh : List Int → List Int) (first : Nat) (part J : List (List (List Int))) (i : Nat) : Num.pJ sh first part J (i + 1) = Num.jrow (Num.pJ sh first part J i) (first + i) sh (part.getD i []) (part.getD i []).length := rfl
/-- Lengths of a valid presentation. -/
structure Num.Shp (m : Nat) (O : List Int) (W : List (List Int)) (J : List (List (List Int))) : Prop where
  l0 : O.length = m
  l1 : W.length = m
  l2 : J.length = m
  h6 : m ≤ 6
  lw : ∀ i, i < m → (W.getD i []).length = m
  lj : ∀ i, i < m → (J.getD i []).length = m - 1 - i
  lr : ∀ i, i < m → ∀ k, k < m - 1 - i → ((J.getD i []).getD k []).length = m
theorem Num.Shp.of {O : List Int} {W : List (List Int)} {J : List (List (List Int))} (h : Num.preB O W J = true) : Num.Shp O.length O W J := by
  obtain ⟨a1, a2, a3, a4, a5⟩ := Num.preB_out h
  refine ⟨rfl, a2, a3, (Num.ordC_zero a1).1, fun i hi => (Num.fitB_out (a4 i hi)).1, fun i hi => (Num.conB_out (a5 i hi)).1, fun i hi k hk => ?_⟩
  obtain ⟨c1, c2⟩ := Num.conB_out (a5 i hi)
  exact (Num.fitB_out (c2 k (by omega))).1
theorem Num.trivJ_at (n : Nat) : ∀ k i, i < k → (Num.trivJ n k).getD i [] = Num.trivR n i (n - 1 - i)
  | 0, i, h => by omega
  | k + 1, i, h => by
    rw [Num.trivJ]
    by_cases e : i < k
    · rw [Num.getD_app_l (by rw [Num.trivJ_len]; exact e)]
      exact Num.trivJ_at n k i e
    · obtain rfl : i = k := by omega
      rw [Num.getD_app_r (by rw [Num.trivJ_len]; exact Nat.le_refl _), Num.trivJ_len, Nat.sub_self]
      rfl
theorem Num.trivR_at (n i : Nat) : ∀ k j, j < k → (Num.trivR n i k).getD j [] = Num.uni n (i + 1 + j)
  | 0, j, h => by omega
  | k + 1, j, h => by
    rw [Num.trivR]
    by_cases e : j < k
    · rw [Num.getD_app_l (by rw [Num.trivR_len]; exact e)]
      exact Num.trivR_at n i k j e
    · obtain rfl : j = k := by omega
      rw [Num.getD_app_r (by rw [Num.trivR_len]; exact Nat.le_refl _), Num.trivR_len, Nat.sub_self]
      rfl
/-- The presentation of a direct product, and whether it is valid. -/
def dpP (x y : Pres) : Pres := ⟨x.O ++ y.O, Num.dpW x.O.length y.O.length x.W y.W (trivP (x.O ++ y.O)).W, Num.dpJ x.O.length y.O.length x.J y.J (trivP (x.O ++ y.O)).J⟩
theorem dpP_ok {x y : Pres} (hx : x.ok = true) (hy : y.ok = true) : (dpP x y).ok = decide (Num.ordC (x.O ++ y.O) = 0) := by
  have l : (x.O ++ y.O).length = x.O.length + y.O.length := List.length_append
  refine Num.dp_valid hx hy ?_ ?_ fun i hi => ?_
  · show (List.replicate _ _).length = _
    rw [List.length_replicate, l]
  · show (Num.trivJ _ _).length = _
    rw [Num.trivJ_len, l]
  · show ((Num.trivJ (x.O ++ y.O).length (x.O ++ y.O).length).getD i []).length = _ ∧ ∀ k, k < ((Num.trivJ (x.O ++ y.O).length (x.O ++ y.O).length).getD i []).length → ((Num.trivJ (x.O ++ y.O).length (x.O ++ y.O).length).getD i []).getD k [] = _
    rw [l, Num.trivJ_at _ _ _ hi, Num.trivR_len]
    exact ⟨rfl, fun k hk => Num.trivR_at _ _ _ _ hk⟩
end Go.Proofs.Ytncpngmplddbkaa
