/- What lies behind the first columns of rows. -/
import Derived.Test.YtggkoihlmijacaaL03F
import Derived.Deep.AppendLies
namespace Go.Proofs.Ytggkoihlmijacaa
open Go.RowKit
set_option linter.unusedVariables false
set_option linter.unusedSimpArgs false

theorem rd_of_rows {α : Type} {E : TypeId} {s : Sp α} {nul : α} {w : World} {base n : Nat} {v : Value} {vs : List Value} {xs : List α} (h : w.ownsRow base E 1 v n vs) (hl : xs.length = n) (hr : ∀ i, i < n → s.rd w (vs.getD i undef) (xs.getD i nul)) : (spL E s nul).rd w v xs := by
  subst hl
  obtain ⟨A, cap, rfl, hm⟩ := ownsRow_cap h
  refine ⟨A, cap, rfl, hm, fun j hj => ?_⟩
  have hvl : vs.length = xs.length := by have := h.1; simpa using this
  have h' := h
  rcases h.2 with ⟨hv, h0⟩ | ⟨g, c, cur, hv, hb, hg, r⟩
  · omega
  · simp only [Value.slice.injEq] at hv
    obtain ⟨rfl, -, rfl⟩ := hv
    refine ⟨g, 0, vs.getD j undef, rfl, (h'.lt g rfl).2, ?_, hr j hj⟩
    rw [Nat.zero_add, h'.cellAt j (by omega), List.getD_eq_getElem?_getD, List.getElem?_eq_getElem (by omega)]
    rfl
/-- Where the rows of a list lie, with their capacities. -/
def RowsAt (p : Int) (w : World) (A : Option Addr) (rows : List (List Int)) : Prop := ∀ j, j < rows.length → ∃ g o gu ou cu, A = some ⟨g, o, none⟩ ∧ g < w.heap.size ∧ w.cell? ⟨g, o + j, none⟩ = some (.slice (some ⟨gu, ou, none⟩) (rows.getD j []).length cu) ∧ (rows.getD j []).length ≤ cu ∧ cu ≤ maxLen ∧ gu < w.heap.size ∧
  ∀ i, i < (rows.getD j []).length → w.cell? ⟨gu, ou + i * 2, none⟩ = some (.int .i64 ((rows.getD j []).getD i 0)) ∧ w.cell? ⟨gu, ou + i * 2 + 1, none⟩ = some (.int .i64 p)
theorem RowsAt.of {p : Int} {w : World} {S : Nat → Prop} {A : Option Addr} {n c : Nat} {rows : List (List Int)} (h : (spRR p).own w S (.slice A n c) rows) (hl : ∀ j, j < rows.length → 0 < (rows.getD j []).length) (r : Nat) : ∀ (A' : Option Addr), (∀ g, A = some ⟨g, 0, none⟩ → A' = some ⟨g, r, none⟩) → RowsAt p w A' (rows.drop r) := by
  intro A' hA j hj
  have hj' : r + j < rows.length := by simp at hj; omega
  obtain ⟨g, cg, u, T, e1, -, hgl, hc, -, hu, -, -⟩ := spL_own_at h hj'
  simp only [Value.slice.injEq] at e1
  obtain ⟨rfl, -, rfl⟩ := e1
  have eD : (rows.drop r).getD j [] = rows.getD (r + j) [] := by simp [List.getD_eq_getElem?_getD, List.getElem?_drop]
  rw [eD]
  have hx := hl (r + j) hj'
  obtain ⟨h1, h2, h3⟩ := hu
  have h1' := h1
  rcases h1.2 with ⟨hv, h0⟩ | ⟨gu, cu, cur, hv, hb, hg, q1, q2, q3⟩
  · omega
  · subst hv
    refine ⟨g, r, gu, 0, cu, hA g rfl, hgl, hc, q1, q2, h3 gu (h2 gu rfl), fun i hi => ?_⟩
    obtain ⟨a, b⟩ := resCells_get p (rows.getD (r + j) []) i hi
    exact ⟨by rw [Nat.zero_add, h1'.cellAt (i * 2) (by omega), a], by rw [Nat.zero_add, h1'.cellAt (i * 2 + 1) (by omega), b]⟩
theorem RowsAt.below {p : Int} {w w' : World} {A : Option Addr} {rows : List (List Int)} (h : RowsAt p w A rows) (hb : Below w.heap.size w w') : RowsAt p w' A rows := fun j hj => by
  obtain ⟨g, o, gu, ou, cu, h1, h2, h3, h4, h5, h6, h7⟩ := h j hj
  exact ⟨g, o, gu, ou, cu, h1, Nat.lt_of_lt_of_le h2 hb.size, by rw [hb.cell h2]; exact h3, h4, h5, Nat.lt_of_lt_of_le h6 hb.size, fun i hi => by rw [hb.cell h6, hb.cell h6]; exact h7 i hi⟩
set_option maxRecDepth 100000 in
set_option maxHeartbeats 2000000 in
theorem behind_any (p : Int) (C : Nat) (A : Option Addr) (c : Nat) (rows : List (List Int)) (w : World) (h : RowsAt p w A rows) (hl : rows.length ≤ 1000) (hC : ∀ j, j < rows.length → C < (rows.getD j []).length ∧ (rows.getD j []).length ≤ 1000) :
    Calls Try.prog 110 #[.int .i64 C, .slice A rows.length c] w fun e w' => ∃ v, e = .returned v ∧ (spRR p).rd w' v (rows.map (List.drop C)) ∧ Below w.heap.size w w' := by
  obtain ⟨i0, hi, hz0, hz1, hz2⟩ := info_parts infoRow
  have HR := Lib.hid h
  have HC := Lib.hid hC
  clear h hC
  go_enter Try.func110, Try.ntmps110
  go_wp2_with (fail)
  go_loopw [5, 10] (fun s5 s10 wr => ∃ (j : Nat) (vs : List Value), s10 = .int .i64 j ∧ j ≤ rows.length ∧ Hid (wr.ownsRow w.heap.size 56 1 s5 j vs) ∧ Hid (∀ i, i < j → (spR p).rd w (vs.getD i undef) ((rows.getD i []).drop C)) ∧ Below w.heap.size w wr) (fun _ s10 _ => rows.length - (intOf s10).toNat)
  case atStart => exact ⟨0, [], rfl, by omega, Lib.hid (World.ownsRow_nil _ _ _ _), Lib.hid (fun i hi => by omega), Below.refl _ _⟩
  case round =>
    obtain ⟨j, vs, rfl, hj, HO, HV, bel⟩ := hrel
    by_cases hlt : j < rows.length
    · obtain ⟨g, o, gu, ou, cu, rfl, hg, hc0, hcap, hcm, hgu, hcells⟩ := HR.out j hlt
      obtain ⟨hC1, hC2⟩ := HC.out j hlt
      have hc : wr.cell? ⟨g, o + j, none⟩ = some (.slice (some ⟨gu, ou, none⟩) (rows.getD j []).length cu) := by rw [bel.cell hg]; exact hc0
      have j0 : (0 : Int) ≤ (j : Int) := by omega
      have j1 : (j : Int) < (rows.length : Int) := by omega
      have cc0 : (0 : Int) ≤ (C : Int) := by omega
      have cc1 : (C : Int) ≤ ((rows.getD j []).length : Int) := by omega
      have cc2 : C ≤ (rows.getD j []).length := by omega
      have cc3 : ¬ (cu = C) := by omega
      unfold maxLen at hcm
      have hrd : Hid ((spR p).rd w (.slice (some ⟨gu, ou + C * 2, none⟩) ((rows.getD j []).length - C) (cu - C)) ((rows.getD j []).drop C)) := Lib.hid (by
        have e1 : ((rows.getD j []).drop C).length = (rows.getD j []).length - C := by rw [List.length_drop]
        refine ⟨some ⟨gu, ou + C * 2, none⟩, cu - C, by rw [e1], by rw [e1]; unfold maxLen; omega, fun i hi => ⟨gu, ou + C * 2, rfl, hgu, ?_, ?_⟩⟩
        · rw [e1] at hi
          have a := (hcells (C + i) (by omega)).1
          have e2 : ou + (C + i) * 2 = ou + C * 2 + i * 2 := by omega
          rw [e2] at a
          rw [a, Num.drop_get]
        · rw [e1] at hi
          have a := (hcells (C + i) (by omega)).2
          have e2 : ou + (C + i) * 2 + 1 = ou + C * 2 + i * 2 + 1 := by omega
          rw [e2] at a
          exact a)
      have hvl : Hid (vs.length = j) := Lib.hid (by have := HO.out.1; simpa using this)
      have HOA := Lib.hid (HO.out.alloc (.cells #[.slice (some ⟨gu, ou + C * 2, none⟩) ((rows.getD j []).length - C) (cu - C)] 56))
      clear hcells hc0
      generalize hrl : (rows.getD j []).length = ln at *
      clear hrl
      go_wp2_with (first | (at_builtin; refine wpList_append_lies _ rfl _ _ 51 rfl w.heap.size 56 i0 (.slice none 0 0) 1 24 Try.underlying51 hi hz0 hz1 hz2 rfl (by decide) _ j vs rfl HOA.out ⟨_, 0, none⟩ 1 1 [.slice (some ⟨gu, ou + C * 2, none⟩) (ln - C) (cu - C)] rfl rfl (cell_one_new _ _ _) (by simp [Value.oneCell']) (by decide) (by unfold maxLen; omega) (by omega) (by have := bel.size; simp; omega) _ rfl ?_; intro g3 cap3 w3 own3 gr3 at3 lt3))
      have HO3 := Lib.hid own3
      have bel3 : Below w.heap.size w w3 := (bel.alloc bel.size _).grown gr3 (by have := bel.size; simp; omega) (fun k hk => (World.ownsRow.lt HO.out k hk).1)
      have HV3 : Hid (∀ i, i < j + 1 → (spR p).rd w ((vs ++ [Value.slice (some ⟨gu, ou + C * 2, none⟩) (ln - C) (cu - C)]).getD i undef) ((rows.getD i []).drop C)) := Lib.hid (fun i hi => by
        have hv := hvl.out
        by_cases e : i < j
        · rw [List.getD_eq_getElem?_getD, List.getElem?_append_left (by omega), ← List.getD_eq_getElem?_getD]
          exact HV.out i e
        · obtain rfl : i = j := by omega
          rw [List.getD_eq_getElem?_getD, List.getElem?_append_right (by omega), hv]
          simpa using hrd.out)
      clear own3 gr3 at3 lt3 hc
      go_wp2_with (fail)
      exact ⟨⟨j + 1, _, by go_num, by omega, HO3, HV3, bel3⟩, by simp [intOf]; omega⟩
    · obtain rfl : j = rows.length := by omega
      have hge : ¬ ((rows.length : Int) < (rows.length : Int)) := by omega
      have HF := Lib.hid (rd_of_rows (s := spR p) (nul := []) (xs := rows.map (List.drop C)) HO.out (by simp) (fun i hi => by rw [Num.map_getD hi]; exact (spR p).rd_below (HV.out i hi) bel))
      go_wp2_with (fail)
      go_ret
      exact ⟨_, rfl, HF.out, bel⟩
end Go.Proofs.Ytggkoihlmijacaa
