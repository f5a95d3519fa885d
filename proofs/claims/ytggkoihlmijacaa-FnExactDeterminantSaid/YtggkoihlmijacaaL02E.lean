/- Residues added and negated; rows copied, their pivots. -/
import Derived.Test.YtggkoihlmijacaaL02D
import Derived.Test.YtggkoihlmijacaaKB
namespace Go.Proofs.Ytggkoihlmijacaa
open Go.RowKit
set_option linter.unusedVariables false
set_option linter.unusedSimpArgs false

theorem plus_any (x y m z : Int) (w : World) (h1 : 1 ≤ m) (h2 : m ≤ 1000000) (hx0 : 0 ≤ x) (hx1 : x < m) (hy0 : 0 ≤ y) (hy1 : y < m) :
    Calls Try.prog 139 #[.agg #[.int .i64 x, .int .i64 m], .agg #[.int .i64 y, .int .i64 z]] w fun e w' => e = .returned (.agg #[.int .i64 ((x + y) % m), .int .i64 m]) ∧ Below w.heap.size w w' := by
  go_enter Try.func139, Try.ntmps139
  go_wp2_with (go_at_call 86; refine (residueOf_any _ _ _ h1 h2).mono ?_; rintro e w1 ⟨rfl, hb⟩; obtain ⟨hc, hf⟩ := bcell hb; have hz : w.heap.size + 2 < w1.heap.size := (by have := hb.size; simp at this; omega))
  refine bodyPost_ret (v := .agg #[.int .i64 ((x + y) % m), .int .i64 m]) (by simp [results, Try.results139, go_sem, hc, hf, hz]) rfl ⟨rfl, ?_⟩
  exact (((((Below.refl _ _).alloc (Nat.le_refl _) _).alloc (by simp) _).alloc (by simp; omega) _).trans (hb.mono (by simp; omega))).setCell (by simp; omega) _ |>.setCell (by simp; omega) _
theorem negated_any (x m : Int) (w : World) (h1 : 1 ≤ m) (h2 : m ≤ 1000000) (hx0 : 0 ≤ x) (hx1 : x < m) :
    Calls Try.prog 93 #[.agg #[.int .i64 x, .int .i64 m]] w fun e w' => e = .returned (.agg #[.int .i64 (Num.neg m x), .int .i64 m]) ∧ Below w.heap.size w w' := by
  unfold Num.neg
  go_enter Try.func93, Try.ntmps93
  go_wp2_with (go_at_call 86; refine (residueOf_any _ _ _ h1 h2).mono ?_; rintro e w1 ⟨rfl, hb⟩; obtain ⟨hc, hf⟩ := bcell hb; have hz : w.heap.size + 1 < w1.heap.size := (by have := hb.size; simp at this; omega))
  refine bodyPost_ret (v := .agg #[.int .i64 (-x % m), .int .i64 m]) (by simp [results, Try.results93, go_sem, hc, hf, hz]) rfl ⟨rfl, ?_⟩
  exact ((((Below.refl _ _).alloc (Nat.le_refl _) _).alloc (by simp) _).trans (hb.mono (by simp; omega))).setCell (by simp; try omega) _ |>.setCell (by simp; try omega) _
set_option maxHeartbeats 400000 in
theorem pivotOf_any (p : Int) (v : Value) (ys : List Int) (w : World) (h : (spR p).rd w v ys) (hl : ys.length ≤ 1000) :
    Calls Try.prog 59 #[v] w fun e w' => e = .returned (.int .i64 (Num.lead ys : Nat)) ∧ w = w' := by
  obtain ⟨A, c, rfl, -⟩ := spR_form h
  have HR := Lib.hid h
  clear h
  go_enter Try.func59, Try.ntmps59
  go_wp2_with (fail)
  go_loop [3] (fun s => ∃ j : Nat, s = .int .i64 j ∧ j ≤ ys.length ∧ Hid (∀ i, i < j → ys.getD i 0 = 0)) (fun s => ys.length - (intOf s).toNat)
  case atStart => exact ⟨0, rfl, by omega, Lib.hid fun i hi => by omega⟩
  case round =>
    obtain ⟨j, rfl, hj, hz⟩ := hrel
    by_cases hlt : j < ys.length
    · obtain ⟨g, o, rfl, hg, hc, hd⟩ := spR_at HR.out hlt
      have i0 : (0 : Int) ≤ (j : Int) := by omega
      have i1 : (j : Int) < (ys.length : Int) := by omega
      by_cases hy : ys.getD j 0 = 0
      · have HZ : Hid (∀ i, i < j + 1 → ys.getD i 0 = 0) := Lib.hid fun i hi => by
          by_cases e : i = j
          · rw [e]; exact hy
          · exact hz.out i (by omega)
        rw [hy] at hc
        clear hy
        go_wp2_with (fail)
        exact ⟨⟨j + 1, by go_num, by omega, HZ⟩, by simp [intOf]; omega⟩
      · have E : Hid (Num.lead ys = j) := Lib.hid (Num.lead_eq hj hz.out fun _ => hy)
        have hy' : (ys.getD j 0 == 0) = false := by simpa using hy
        generalize ys.getD j 0 = y at *
        go_wp2_with (fail)
        go_ret
        exact ⟨by rw [E.out]; rfl, rfl⟩
    · have hge : ¬ ((j : Int) < (ys.length : Int)) := by omega
      obtain rfl : j = ys.length := by omega
      have E : Hid (Num.lead ys = ys.length) := Lib.hid (Num.lead_eq hj hz.out fun h => absurd h (by omega))
      go_wp2_with (fail)
      go_ret
      exact ⟨by rw [E.out]; rfl, rfl⟩
/-- The cells of an owned row at an index. -/
theorem spR_own_at {p : Int} {w : World} {S : Nat → Prop} {v : Value} {x : List Int} (h : (spR p).own w S v x) {j : Nat} (hj : j < x.length) :
    ∃ g c, v = .slice (some ⟨g, 0, none⟩) x.length c ∧ S g ∧ g < w.heap.size ∧ w.cell? ⟨g, j * 2, none⟩ = some (.int .i64 (x.getD j 0)) ∧ w.cell? ⟨g, j * 2 + 1, none⟩ = some (.int .i64 p) ∧ w.frozen? ⟨g, j * 2, none⟩ = false ∧ w.frozen? ⟨g, j * 2 + 1, none⟩ = false := by
  obtain ⟨h1, h2, h3⟩ := h
  rcases h1.2 with ⟨hv, h0⟩ | ⟨g, c, cur, hv, hb, hg, r⟩
  · omega
  · obtain ⟨e1, e2⟩ := resCells_get p x j hj
    have hS := h2 g (by rw [hv]; rfl)
    subst hv
    exact ⟨g, c, rfl, hS, h3 g hS, by rw [h1.cellAt (j * 2) (by omega), e1], by rw [h1.cellAt (j * 2 + 1) (by omega), e2], h1.frozenAt _, h1.frozenAt _⟩
/-- .. and what it is when the residue there is replaced. -/
theorem spR_set {p : Int} {w : World} {S : Nat → Prop} {g n c : Nat} {x : List Int} (h : (spR p).own w S (.slice (some ⟨g, 0, none⟩) n c) x) {j : Nat} (hj : j < x.length) (y : Int) :
    (spR p).own ((w.setCell ⟨g, j * 2, none⟩ (.int .i64 y)).setCell ⟨g, j * 2 + 1, none⟩ (.int .i64 p)) S (.slice (some ⟨g, 0, none⟩) n c) (x.set j y) := by
  obtain ⟨h1, h2, h3⟩ := h
  obtain rfl : n = x.length := by
    obtain ⟨A', c', hv, _⟩ := ownsRow_cap h1
    simp only [Value.slice.injEq] at hv
    exact hv.2.1
  obtain ⟨st1, gr1⟩ := h1.stored (j * 2) (.int .i64 y)
  obtain ⟨st2, gr2⟩ := st1.stored (j * 2 + 1) (.int .i64 p)
  rw [resCells_set p x j y hj] at st2
  refine ⟨?_, h2, fun k hk => by have := h3 k hk; simpa using this⟩
  rw [List.length_set]
  exact st2
theorem chg_set2 {S : Nat → Prop} {w : World} {g i j : Nat} (h : S g) (u v : Value) : ChgS S w ((w.setCell ⟨g, i, none⟩ u).setCell ⟨g, j, none⟩ v) :=
  ((ChgS.set w ⟨g, i, none⟩ u).trans (ChgS.set _ ⟨g, j, none⟩ v)).mono fun k e => by subst e; exact h
end Go.Proofs.Ytggkoihlmijacaa
