/- Rows of integers: made of numbers, copied. -/
import Derived.Test.YtihdidbikeaafaaL06A
import Derived.Test.YtihdidbikeaafaaKB
namespace Go.Proofs.Ytihdidbikeaafaa
open Go.RowKit
set_option linter.unusedVariables false
set_option linter.unusedSimpArgs false

theorem infoZ : (Try.prog.info? 101).map (fun i => (i.zero, i.size, i.bytes)) = some (some (.int .i64 0), 1, 8) := by kernel_rfl
theorem infoZZ : (Try.prog.info? 93).map (fun i => (i.zero, i.size, i.bytes)) = some (some (.slice none 0 0), 1, 24) := by kernel_rfl
/-- A row of integers, as a shape. -/
def spZ : Sp (List Int) where
  rd := spI.rd
  own w S v xs := w.ownsRow 0 101 1 v xs.length (xs.map (Value.int .i64)) ∧ (∀ k, v.ownBlock = some k → S k) ∧ ∀ k, S k → k < w.heap.size
  sz := List.length
  cnt := List.length
  mark k xs := xs
  rd_keep := spI.rd_keep
  own_keep := fun {w w' S v xs} ⟨h1, h2, h3⟩ hk => ⟨ownsRow_keep h1 fun k e => hk k (h2 k e), h2, fun k hS => heap_lt (h3 k hS) (hk k hS)⟩
  own_lt := fun ⟨_, _, h3⟩ hS => h3 _ hS
  own_rd := fun {w S v xs} ⟨h1, _, _⟩ => by
    obtain ⟨A, cap, rfl, h4⟩ := ownsRow_cap h1
    refine ⟨A, cap, rfl, h4, fun j hj => ?_⟩
    rcases h1.2 with ⟨hv, h0⟩ | ⟨g, c, cur, hv, hb, hg, r⟩
    · omega
    · simp only [Value.slice.injEq] at hv
      obtain ⟨rfl, -, rfl⟩ := hv
      refine ⟨g, 0, rfl, (h1.lt g rfl).2, ?_⟩
      rw [Nat.zero_add, h1.cellAt j (by omega)]
      simp [hj]
theorem spZ_rd {w : World} {v : Value} {x : List Int} : spZ.rd w v x = spI.rd w v x := rfl
def spZZ : Sp (List (List Int)) := spL 93 spZ []
theorem spZZ_row {w : World} {A : Option Addr} {n c : Nat} {x : List (List Int)} (h : spZZ.rd w (.slice A n c) x) {j : Nat} (hj : j < x.length) :
    ∃ g o B cB, A = some ⟨g, o, none⟩ ∧ g < w.heap.size ∧ w.cell? ⟨g, o + j, none⟩ = some (.slice B (x.getD j []).length cB) ∧ (x.getD j []).length ≤ maxLen ∧ RdI w B (x.getD j []) := by
  obtain ⟨g, o, u, h1, h2, h3, B, cB, rfl, h5, h6⟩ := spL_row h hj
  exact ⟨g, o, B, cB, h1, h2, h3, h5, h6⟩
/-- A list of rows without its first one. -/
theorem spZZ_tail {w : World} {g o n c : Nat} {x : List (List Int)} (h : spZZ.rd w (.slice (some ⟨g, o, none⟩) n c) x) (hx : 0 < x.length) : ∃ c', c' = c - 1 ∧ spZZ.rd w (.slice (some ⟨g, o + 1, none⟩) (n - 1) c') (x.drop 1) := by
  refine ⟨c - 1, rfl, ?_⟩
  obtain ⟨A', cap', e, hm, h3⟩ := h
  simp only [Value.slice.injEq] at e
  obtain ⟨rfl, rfl, rfl⟩ := e
  have el : (x.drop 1).length = x.length - 1 := by simp
  refine ⟨_, _, by rw [el], by rw [el]; omega, fun j hj => ?_⟩
  rw [el] at hj
  obtain ⟨g', o', u, e1, e2, e3, e4⟩ := h3 (j + 1) (by omega)
  simp only [Option.some.injEq, Addr.mk.injEq, and_true] at e1
  obtain ⟨rfl, rfl⟩ := e1
  refine ⟨g, o + 1, u, rfl, e2, by rw [show o + 1 + j = o + (j + 1) by omega]; exact e3, ?_⟩
  have : (x.drop 1).getD j [] = x.getD (j + 1) [] := by simp [List.getD_eq_getElem?_getD, Nat.add_comm]
  rw [this]; exact e4
set_option maxRecDepth 100000 in
set_option maxHeartbeats 1000000 in
theorem integersOf_any (v : Value) (xs : List Int) (w : World) (h : spI.rd w v xs) (hl : xs.length ≤ 1000) :
    Calls Try.prog 84 #[v] w (Made spZ xs w) := by
  obtain ⟨A, c, rfl, -, h⟩ := h
  obtain ⟨i0, hi, hz0, hz1, hz2⟩ := info_parts infoZ
  go_enter Try.func84, Try.ntmps84
  go_wp2_with (refine wpList_make_full _ rfl (.tmp 7) (.tmp 7) 93 rfl w.heap.size 101 i0 (.int .i64 0) 1 Try.underlying93 hi hz0 hz1 .i64 .i64 (xs.length : Int) (xs.length : Int) xs.length rfl rfl rfl rfl (by rw [hz2]; omega) (by unfold maxLen; omega) (Nat.le_refl _) ?_; intro w1 own1 gr1)
  go_loopw [11] (fun s wr => ∃ (j : Nat) (ys : List Value), s = .int .i64 j ∧ j ≤ xs.length ∧ wr.ownsRow w.heap.size 101 1 (.slice (some ⟨w.heap.size, 0, none⟩) xs.length xs.length) xs.length ys ∧ Hid (ys.take j = (xs.take j).map (Value.int .i64)) ∧ Below w.heap.size w wr) (fun s _ => xs.length - (intOf s).toNat)
  case atStart => exact ⟨0, _, rfl, by omega, own1, Lib.hid (by simp), (Below.refl _ _).grown gr1 (Nat.le_refl _) (fun k hk => by simp at hk)⟩
  case round =>
    obtain ⟨j, ys, rfl, hj, own, htk, bel⟩ := hrel
    clear own1 gr1
    have hyl : ys.length = xs.length := by have := own.1; simpa using this
    by_cases hlt : j < xs.length
    · obtain ⟨g, o, rfl, hg, hc⟩ := (h.below' bel) j hlt
      have i0 : (0 : Int) ≤ (j : Int) := by omega
      have i1 : (j : Int) < (xs.length : Int) := by omega
      have HS : Hid ((ys.set j (.int .i64 (xs.getD j 0))).take (j + 1) = (xs.take (j + 1)).map (Value.int .i64)) := Lib.hid (by
        rw [List.take_set, List.take_succ_eq_append_getElem (by omega), htk.out, List.set_append_right _ _ (by simp; omega), map_take_succ _ _ 0 hlt]
        have : j - (List.map (Value.int .i64) (xs.take j)).length = 0 := by simp; omega
        rw [this]
        rfl)
      generalize xs.getD j 0 = x at *
      obtain ⟨ov0, hov0⟩ : ∃ ov, wr.cell? ⟨w.heap.size, j, none⟩ = some ov := ⟨_, by rw [own.cellAt j (by omega)]; exact List.getElem?_eq_getElem (by omega)⟩
      have hf0 := own.frozenAt j
      have hz : w.heap.size < wr.heap.size := (World.ownsRow.lt own _ rfl).2
      obtain ⟨st1, gr1⟩ := own.stored j (.int .i64 x)
      have bel2 := bel.grown gr1 (by omega) (fun k hk => by simp at hk; omega)
      have HO := Lib.hid st1
      clear st1 gr1 own
      go_wp2_with (fail)
      exact ⟨⟨j + 1, _, by go_num, by omega, HO.out, HS, bel2⟩, by simp [intOf]; omega⟩
    · have hge : ¬ ((j : Int) < (xs.length : Int)) := by omega
      obtain rfl : j = xs.length := by omega
      have HO : Hid (wr.ownsRow w.heap.size 101 1 (.slice (some ⟨w.heap.size, 0, none⟩) xs.length xs.length) xs.length (xs.map (Value.int .i64))) := Lib.hid (by
        have e := htk.out
        rw [List.take_length, List.take_of_length_le (by omega)] at e
        rw [← e]
        exact own)
      have hlt2 : ∀ k, (Value.slice (some ⟨w.heap.size, 0, none⟩) xs.length xs.length).ownBlock = some k → w.heap.size ≤ k ∧ k < wr.heap.size := fun k hk => World.ownsRow.lt own k hk
      have HL := Lib.hid hlt2
      clear own htk hlt2
      go_wp2_with (fail)
      go_ret
      refine Made.of (S := fun k => (Value.slice (some ⟨w.heap.size, 0, none⟩) xs.length xs.length).ownBlock = some k) rfl ⟨?_, fun k hk => hk, fun k hk => (HL.out k hk).2⟩ (fun k hk => (HL.out k hk).1) bel
      exact ownsRow_base HO.out (Nat.zero_le _)
set_option maxRecDepth 100000 in
set_option maxHeartbeats 1000000 in
theorem copyOf_any (v : Value) (x : Tab) (w : World) (h : spTab.rd w v x) (hx : x.R.length ≤ 1000) (hl : ∀ j, j < x.R.length → (x.R.getD j []).length ≤ 1000) : Calls Try.prog 60 #[v] w (Made spZZ x.R w) := by
  obtain ⟨i0, hi, hz0, hz1, hz2⟩ := info_parts infoZZ
  obtain ⟨A, n, c, rfl, r⟩ := spTab_form h
  obtain ⟨rfl, hm, -, -⟩ := rdII_of r
  have b0 : Below w.heap.size w (w.alloc (.cells [.int .i64 x.C, .slice A x.R.length c].toArray 28)) := by go_grown
  have B0 := Blk.new w [.int .i64 x.C, .slice A x.R.length c] 28
  have HR := Lib.hid r
  have HV := Lib.hid hl
  clear h r hl hm
  go_enter Try.func60, Try.ntmps60
  go_wp2_with (refine wpList_make_full _ rfl (.tmp 8) (.tmp 8) 68 rfl (w.heap.size + 1) 93 i0 (.slice none 0 0) 1 Try.underlying68 hi hz0 hz1 .i64 .i64 (x.R.length : Int) (x.R.length : Int) x.R.length rfl rfl rfl rfl (by rw [hz2]; omega) (by unfold maxLen; omega) (by simp) ?_; intro w1 own1 gr1; rw [World.size_alloc] at own1; have b1 : Below (w.alloc (.cells [.int .i64 x.C, .slice A x.R.length c].toArray 28)).heap.size (w.alloc (.cells [.int .i64 x.C, .slice A x.R.length c].toArray 28)) w1 := (Below.refl _ _).grown gr1 (Nat.le_refl _) (fun k hk => by simp at hk); have B1 := B0.below b1; have L1 := bstep b0 b0.size b1; obtain ⟨bl, c0, c1⟩ := B1.c2; clear gr1 b1 B0)
  go_loopw [13] (fun s wr => ∃ j : Nat, s = .int .i64 j ∧ j ≤ x.R.length ∧ CopyTo 93 spZ [] (w.heap.size + 1) wr (.slice (some ⟨w.heap.size + 1, 0, none⟩) x.R.length x.R.length) x.R j ∧ Blk wr w.heap.size [.int .i64 x.C, .slice A x.R.length c] 28 ∧ Below w.heap.size w wr) (fun s _ => x.R.length - (intOf s).toNat)
  case atStart => exact ⟨0, rfl, by omega, ⟨_, fun _ _ => False, own1, fun i hi => by omega, fun i j _ hj => by omega, fun i hi => by omega⟩, B1, L1⟩
  case round =>
    obtain ⟨j, rfl, hj, own, BX, bel⟩ := hrel
    clear own1 bl c0 c1 B1 L1
    by_cases hlt : j < x.R.length
    · obtain ⟨g, o, u, rfl, hg, hc, hru⟩ := spL_row (spII.rd_below HR.out bel) hlt
      obtain ⟨bl, c0, c1⟩ := BX.c2
      have j0 : (0 : Int) ≤ (j : Int) := by omega
      have j1 : (j : Int) < (x.R.length : Int) := by omega
      have HT := Lib.hid (integersOf_any u (x.R.getD j []) wr hru (HV.out j hlt))
      have HOWN := Lib.hid own
      have hz := bel.size
      clear hru own
      go_wp2_with (fail)
      refine HT.out.mono ?_; rintro e w2 ⟨u2, S2, rfl, ow2, hS2, b2⟩
      obtain ⟨A2, cap2, rfl, -, -⟩ := spZ.own_rd ow2
      obtain ⟨⟨ov, hov⟩, hfz, st1, st2, hzz⟩ := HOWN.out.step hlt b2 ow2 hS2
      generalize (x.R.getD j []).length = n2 at *
      have B2 := (BX.below b2).other (p := ⟨w.heap.size + 1, j, none⟩) (by simp) (.slice A2 n2 cap2)
      have bel2 := (bel.trans (b2.mono hz)).grown st2 (by have := b2.size; omega) (fun k hk => by simp at hk; omega)
      have HST := Lib.hid st1
      clear st1 st2 ow2 HOWN HT hc hS2 b2 c0 c1 bl
      go_wp2_with (fail)
      exact ⟨⟨j + 1, by go_num, by omega, HST.out, B2, bel2⟩, by simp [intOf]; omega⟩
    · have hge : ¬ ((j : Int) < (x.R.length : Int)) := by omega
      obtain rfl : j = x.R.length := by omega
      have HO := Lib.hid own.done
      clear own
      go_wp2_with (fail)
      go_ret
      exact Made.of rfl HO.out (fun k hk => by have := hk.1; omega) bel
end Go.Proofs.Ytihdidbikeaafaa
