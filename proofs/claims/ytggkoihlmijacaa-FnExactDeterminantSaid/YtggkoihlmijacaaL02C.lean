/- Rows of residues: made of numbers, read as numbers. -/
import Derived.Test.YtggkoihlmijacaaKC
import Derived.Test.YtggkoihlmijacaaL02A
import Derived.Test.YtggkoihlmijacaaKB
import Derived.Maps.AppendAt
namespace Go.Proofs.Ytggkoihlmijacaa
open Go.RowKit
set_option linter.unusedVariables false
set_option linter.unusedSimpArgs false

theorem infoR : (Try.prog.info? 60).map (fun i => (i.zero, i.size, i.bytes)) = some (some (.agg #[.int .i64 0, .int .i64 0]), 2, 16) := by kernel_rfl
def resCells (p : Int) (ys : List Int) : List Value := ys.flatMap fun y => [.int .i64 y, .int .i64 p]
theorem resCells_length (p : Int) (ys : List Int) : (resCells p ys).length = ys.length * 2 := by
  induction ys with
  | nil => rfl
  | cons a l ih => simp [resCells] at ih ⊢; omega
theorem resCells_snoc (p : Int) (ys : List Int) (y : Int) : resCells p (ys ++ [y]) = resCells p ys ++ [.int .i64 y, .int .i64 p] := by simp [resCells]
theorem resCells_get (p : Int) (ys : List Int) (j : Nat) (hj : j < ys.length) : (resCells p ys)[j * 2]? = some (.int .i64 (ys.getD j 0)) ∧ (resCells p ys)[j * 2 + 1]? = some (.int .i64 p) := by
  induction ys generalizing j with
  | nil => simp at hj
  | cons a l ih =>
    cases j with
    | zero => simp [resCells]
    | succ j =>
      have hj' : j < l.length := by simpa using hj
      obtain ⟨h1, h2⟩ := ih j hj'
      have e : resCells p (a :: l) = .int .i64 a :: .int .i64 p :: resCells p l := by simp [resCells]
      have e1 : (j + 1) * 2 = j * 2 + 1 + 1 := by omega
      rw [e, e1]
      simp only [List.getElem?_cons_succ]
      exact ⟨by rw [h1]; simp, h2⟩
theorem map_take_succ {α β : Type} (f : α → β) (l : List α) (d : α) {j : Nat} (h : j < l.length) : (l.take (j + 1)).map f = (l.take j).map f ++ [f (l.getD j d)] := by
  rw [List.take_succ_eq_append_getElem h, List.map_append]
  simp [h]
/-- The head of a row's cells when one more residue has been written. -/
theorem resCells_step (p : Int) (l : List Value) (ys : List Int) (j : Nat) (y : Int) (hl : j * 2 + 1 < l.length) (hy : ys.length = j) (h : l.take (j * 2) = resCells p ys) :
    ((l.set (j * 2) (.int .i64 y)).set (j * 2 + 1) (.int .i64 p)).take ((j + 1) * 2) = resCells p (ys ++ [y]) := by
  rw [resCells_snoc, ← h]
  have e : (j + 1) * 2 = j * 2 + 1 + 1 := by omega
  rw [e, List.take_succ_eq_append_getElem (by simp; omega), List.take_succ_eq_append_getElem (by simp; omega), List.take_set_of_le (by omega), List.take_set_of_le (by omega)]
  simp
/-- The same where a residue of a row is replaced. -/
theorem resCells_set (p : Int) (ys : List Int) (j : Nat) (y : Int) (hj : j < ys.length) : ((resCells p ys).set (j * 2) (.int .i64 y)).set (j * 2 + 1) (.int .i64 p) = resCells p (ys.set j y) := by
  induction ys generalizing j with
  | nil => simp at hj
  | cons a l ih =>
    cases j with
    | zero => simp [resCells]
    | succ j =>
      have hj' : j < l.length := by simpa using hj
      have e1 : (j + 1) * 2 = j * 2 + 1 + 1 := by omega
      have e : ∀ (b : Int) (m : List Int), resCells p (b :: m) = .int .i64 b :: .int .i64 p :: resCells p m := by simp [resCells]
      rw [e, e1, List.set_cons_succ, List.set_cons_succ, List.set_cons_succ, List.set_cons_succ, ih j hj', ← e]
      rfl

/-- A row of residues modulo p, as a shape. -/
def spR (p : Int) : Sp (List Int) where
  rd w v ys := ∃ A cap, v = .slice A ys.length cap ∧ ys.length ≤ maxLen ∧ ∀ j, j < ys.length → ∃ g o, A = some ⟨g, o, none⟩ ∧ g < w.heap.size ∧ w.cell? ⟨g, o + j * 2, none⟩ = some (.int .i64 (ys.getD j 0)) ∧ w.cell? ⟨g, o + j * 2 + 1, none⟩ = some (.int .i64 p)
  own w S v ys := w.ownsRow 0 60 2 v ys.length (resCells p ys) ∧ (∀ k, v.ownBlock = some k → S k) ∧ ∀ k, S k → k < w.heap.size
  sz := List.length
  cnt := List.length
  mark k ys := ys
  rd_keep := fun ⟨A, cap, h1, h2, h3⟩ hz hk => ⟨A, cap, h1, h2, fun j hj => by
    obtain ⟨g, o, rfl, hg, hc, hd⟩ := h3 j hj
    exact ⟨g, o, rfl, by omega, by rw [World.cell?_of_block (hk g hg)]; exact hc, by rw [World.cell?_of_block (hk g hg)]; exact hd⟩⟩
  own_keep := fun {w w' S v ys} ⟨h1, h2, h3⟩ hk => ⟨ownsRow_keep h1 fun k e => hk k (h2 k e), h2, fun k hS => heap_lt (h3 k hS) (hk k hS)⟩
  own_lt := fun ⟨_, _, h3⟩ hS => h3 _ hS
  own_rd := fun {w S v ys} ⟨h1, _, _⟩ => by
    obtain ⟨A, cap, rfl, h4⟩ := ownsRow_cap h1
    refine ⟨A, cap, rfl, h4, fun j hj => ?_⟩
    rcases h1.2 with ⟨hv, h0⟩ | ⟨g, c, cur, hv, hb, hg, r⟩
    · omega
    · simp only [Value.slice.injEq] at hv
      obtain ⟨rfl, -, rfl⟩ := hv
      obtain ⟨e1, e2⟩ := resCells_get p ys j hj
      refine ⟨g, 0, rfl, (h1.lt g rfl).2, ?_, ?_⟩
      · rw [Nat.zero_add, h1.cellAt (j * 2) (by omega), e1]
      · rw [Nat.zero_add, h1.cellAt (j * 2 + 1) (by omega), e2]
theorem spR_form {p : Int} {w : World} {v : Value} {x : List Int} (h : (spR p).rd w v x) : ∃ A c, v = .slice A x.length c ∧ x.length ≤ maxLen := by
  obtain ⟨A, c, h1, h2, _⟩ := h; exact ⟨A, c, h1, h2⟩
theorem spR_at {p : Int} {w : World} {A : Option Addr} {n c : Nat} {x : List Int} (h : (spR p).rd w (.slice A n c) x) {j : Nat} (hj : j < x.length) :
    ∃ g o, A = some ⟨g, o, none⟩ ∧ g < w.heap.size ∧ w.cell? ⟨g, o + j * 2, none⟩ = some (.int .i64 (x.getD j 0)) ∧ w.cell? ⟨g, o + j * 2 + 1, none⟩ = some (.int .i64 p) := by
  obtain ⟨A', c', e, _, h3⟩ := h
  simp only [Value.slice.injEq] at e
  obtain ⟨rfl, _, rfl⟩ := e
  exact h3 j hj

set_option maxRecDepth 100000 in
set_option maxHeartbeats 1000000 in
theorem residuesOf_any (p : Int) (v : Value) (xs : List Int) (w : World) (h : spI.rd w v xs) (hl : xs.length ≤ 1000) (hp1 : 1 ≤ p) (hp2 : p ≤ 1000000) :
    Calls Try.prog 58 #[.int .i64 p, v] w (Made (spR p) (xs.map (· % p)) w) := by
  obtain ⟨A, c, rfl, -, h⟩ := h
  obtain ⟨i0, hi, hz0, hz1, hz2⟩ := info_parts infoR
  go_enter Try.func58, Try.ntmps58
  go_wp2_with (refine wpList_make_full _ rfl (.tmp 9) (.tmp 9) 56 rfl w.heap.size 60 i0 (.agg #[.int .i64 0, .int .i64 0]) 2 Try.underlying56 hi hz0 hz1 .i64 .i64 (xs.length : Int) (xs.length : Int) xs.length rfl rfl rfl rfl (by rw [hz2]; omega) (by unfold maxLen; omega) (Nat.le_refl _) ?_; intro w1 own1 gr1)
  go_loopw [13] (fun s wr => ∃ (j : Nat) (ys : List Value), s = .int .i64 j ∧ j ≤ xs.length ∧ wr.ownsRow w.heap.size 60 2 (.slice (some ⟨w.heap.size, 0, none⟩) xs.length xs.length) xs.length ys ∧ Hid (ys.take (j * 2) = resCells p ((xs.take j).map (· % p))) ∧ Below w.heap.size w wr) (fun s _ => xs.length - (intOf s).toNat)
  case atStart => exact ⟨0, _, rfl, by omega, own1, Lib.hid (by simp [resCells]), (Below.refl _ _).grown gr1 (Nat.le_refl _) (fun k hk => by simp at hk)⟩
  case round =>
    obtain ⟨j, ys, rfl, hj, own, htk, bel⟩ := hrel
    clear own1 gr1
    have hyl : ys.length = xs.length * 2 := by have := own.1; simpa using this
    by_cases hlt : j < xs.length
    · obtain ⟨g, o, rfl, hg, hc⟩ := (h.below' bel) j hlt
      have i0 : (0 : Int) ≤ (j : Int) := by omega
      have i1 : (j : Int) < (xs.length : Int) := by omega
      have HS : Hid (((ys.set (j * 2) (.int .i64 (xs.getD j 0 % p))).set (j * 2 + 1) (.int .i64 p)).take ((j + 1) * 2) = resCells p ((xs.take (j + 1)).map (· % p))) := Lib.hid (by
        rw [resCells_step p ys _ j _ (by omega) (by simp; omega) htk.out, map_take_succ _ _ 0 hlt])
      have HR := Lib.hid (fun W => residueOf_any (xs.getD j 0) p W hp1 hp2)
      generalize xs.getD j 0 = x at *
      go_wp2_with (fail)
      refine (HR.out _).mono ?_; rintro e w2 ⟨rfl, b2⟩
      have own2 := World.ownsRow.kept (row := none) own ⟨b2.os, b2.tape, b2.output, b2.size, fun k hk _ => b2.block k hk⟩ (.inr (by simp [Value.ownBlock]))
      obtain ⟨ov0, hov0⟩ : ∃ ov, w2.cell? ⟨w.heap.size, j * 2, none⟩ = some ov := ⟨_, by rw [own2.cellAt (j * 2) (by omega)]; exact List.getElem?_eq_getElem (by omega)⟩
      obtain ⟨ov1, hov1⟩ : ∃ ov, w2.cell? ⟨w.heap.size, j * 2 + 1, none⟩ = some ov := ⟨_, by rw [own2.cellAt (j * 2 + 1) (by omega)]; exact List.getElem?_eq_getElem (by omega)⟩
      have hf0 := own2.frozenAt (j * 2)
      have hf1 := own2.frozenAt (j * 2 + 1)
      obtain ⟨st1, gr1⟩ := own2.stored (j * 2) (.int .i64 (x % p))
      obtain ⟨st2, gr2⟩ := st1.stored (j * 2 + 1) (.int .i64 p)
      have bel2 := ((bel.trans (b2.mono bel.size)).grown gr1 (by have := b2.size; have := bel.size; omega) (fun k hk => by simp at hk; omega)).grown gr2 (by have := b2.size; have := bel.size; simp; omega) (fun k hk => by simp at hk; omega)
      have HO := Lib.hid st2
      clear hc own2 st1 st2 gr1 gr2 b2 own
      go_wp2_with (fail)
      exact ⟨⟨j + 1, _, by go_num, by omega, HO.out, HS, bel2⟩, by simp [intOf]; omega⟩
    · have hge : ¬ ((j : Int) < (xs.length : Int)) := by omega
      obtain rfl : j = xs.length := by omega
      have HO : Hid (wr.ownsRow w.heap.size 60 2 (.slice (some ⟨w.heap.size, 0, none⟩) xs.length xs.length) xs.length (resCells p (xs.map (· % p)))) := Lib.hid (by
        have e := htk.out
        rw [List.take_length, List.take_of_length_le (by omega)] at e
        rw [← e]
        exact own)
      have hlt2 : ∀ k, (Value.slice (some ⟨w.heap.size, 0, none⟩) xs.length xs.length).ownBlock = some k → w.heap.size ≤ k ∧ k < wr.heap.size := fun k hk => World.ownsRow.lt own k hk
      have HL := Lib.hid hlt2
      clear own htk hlt2
      go_wp2_with (fail)
      go_ret
      refine Made.of (S := fun k => (Value.slice (some ⟨w.heap.size, 0, none⟩) xs.length xs.length).ownBlock = some k) rfl ⟨?_, fun k hk => hk, fun k hk => (HL.out k hk).2⟩ (fun k hk => (HL.out k hk).1) bel
      simpa using ownsRow_base HO.out (Nat.zero_le _)

set_option maxHeartbeats 1000000 in
theorem valuesOf_any (p : Int) (v : Value) (ys : List Int) (w : World) (h : (spR p).rd w v ys) (hl : ys.length ≤ 1000) :
    Calls Try.prog 87 #[v] w (Made spI ys w) := by
  obtain ⟨A, c, rfl, -⟩ := spR_form h
  obtain ⟨i0, hi, hz0, hz1, hz2⟩ := info_parts infoI
  have HR := Lib.hid h
  clear h
  go_enter Try.func87, Try.ntmps87
  go_wp2_with (refine wpList_make_full _ rfl (.tmp 7) (.tmp 7) 31 rfl w.heap.size 2 i0 (.int .i64 0) 1 Try.underlying31 hi hz0 hz1 .i64 .i64 (ys.length : Int) (ys.length : Int) ys.length rfl rfl rfl rfl (by rw [hz2]; omega) (by unfold maxLen; omega) (Nat.le_refl _) ?_; intro w1 own1 gr1)
  go_loopw [11] (fun s wr => ∃ (j : Nat) (zs : List Value), s = .int .i64 j ∧ j ≤ ys.length ∧ wr.ownsRow w.heap.size 2 1 (.slice (some ⟨w.heap.size, 0, none⟩) ys.length ys.length) ys.length zs ∧ Hid (zs.take j = (ys.take j).map (Value.int .i64)) ∧ Below w.heap.size w wr) (fun s _ => ys.length - (intOf s).toNat)
  case atStart => exact ⟨0, _, rfl, by omega, own1, Lib.hid (by simp), (Below.refl _ _).grown gr1 (Nat.le_refl _) (fun k hk => by simp at hk)⟩
  case round =>
    obtain ⟨j, zs, rfl, hj, own, htk, bel⟩ := hrel
    clear own1 gr1
    have hyl : zs.length = ys.length := by have := own.1; simpa using this
    by_cases hlt : j < ys.length
    · obtain ⟨g, o, rfl, hg, hc, hd⟩ := spR_at ((spR p).rd_below HR.out bel) hlt
      have i0 : (0 : Int) ≤ (j : Int) := by omega
      have i1 : (j : Int) < (ys.length : Int) := by omega
      have HS : Hid ((zs.set j (.int .i64 (ys.getD j 0))).take (j + 1) = (ys.take (j + 1)).map (Value.int .i64)) := Lib.hid (by
        rw [List.take_set, List.take_succ_eq_append_getElem (by omega), htk.out, List.set_append_right _ _ (by simp; omega), map_take_succ _ _ 0 hlt]
        have : j - (List.map (Value.int .i64) (ys.take j)).length = 0 := by simp; omega
        rw [this]
        rfl)
      generalize ys.getD j 0 = y at *
      obtain ⟨ov0, hov0⟩ : ∃ ov, wr.cell? ⟨w.heap.size, j, none⟩ = some ov := ⟨_, by rw [own.cellAt j (by omega)]; exact List.getElem?_eq_getElem (by omega)⟩
      have hf0 := own.frozenAt j
      have hz : w.heap.size < wr.heap.size := (World.ownsRow.lt own _ rfl).2
      obtain ⟨st1, gr1⟩ := own.stored j (.int .i64 y)
      have bel2 := (bel.grown gr1 (by omega) (fun k hk => by simp at hk; omega)).alloc (by simp; omega) (.cells #[.int .i64 y, .int .i64 p] 60)
      have HO := Lib.hid (st1.alloc (.cells #[.int .i64 y, .int .i64 p] 60))
      clear st1 gr1 own
      go_wp2_with (fail)
      exact ⟨⟨j + 1, _, by go_num, by omega, HO.out, HS, bel2⟩, by simp [intOf]; omega⟩
    · have hge : ¬ ((j : Int) < (ys.length : Int)) := by omega
      obtain rfl : j = ys.length := by omega
      have HO : Hid (OwnI wr w.heap.size (.slice (some ⟨w.heap.size, 0, none⟩) ys.length ys.length) ys) := Lib.hid (by
        have e := htk.out
        rw [List.take_length, List.take_of_length_le (by omega)] at e
        unfold OwnI
        rw [← e]
        exact own)
      clear own htk
      go_wp2_with (fail)
      go_ret
      exact Made.of rfl (spI_of HO.out) (fun k hk => (World.ownsRow.lt HO.out k hk).1) bel
end Go.Proofs.Ytggkoihlmijacaa
