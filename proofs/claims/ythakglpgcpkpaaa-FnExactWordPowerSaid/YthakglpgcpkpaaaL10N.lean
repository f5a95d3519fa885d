/- Words: slices.Repeat of one word. -/
import Derived.Test.YthakglpgcpkpaaaL10F
import Derived.Shelf.Spec.SlicesInsert
import Derived.Deep.RegionLaw
namespace Go.Proofs.Ythakglpgcpkpaaa
open Go.RowKit
set_option linter.unusedVariables false
set_option linter.unusedSimpArgs false
theorem and_low (m : Nat) (hm : m ≤ 64) : bits BinOp.and IntKind.u64 (m : Int) 4294967295 = (m : Int) := by
  have : ∀ n : Nat, n < 65 → bits BinOp.and IntKind.u64 (n : Int) 4294967295 = (n : Int) := by decide +kernel
  exact this m (by omega)
set_option maxHeartbeats 1000000 in
theorem mul64_one (m : Nat) (w : World) (hm : m ≤ 64) : Calls Try.prog 86 #[.int .u64 1, .int .u64 (m : Int)] w fun e w' => e = .returned (.tuple #[.int .u64 0, .int .u64 (m : Int)]) ∧ w = w' := by
  have b1 : bits BinOp.and IntKind.u64 1 4294967295 = 1 := by decide +kernel
  have b2 := and_low m hm
  have b0 : bits BinOp.and IntKind.u64 0 4294967295 = 0 := by decide +kernel
  have d1 : (m : Int) / 4294967296 = 0 := by omega
  have w1 : IntKind.u64.wrap (m : Int) = (m : Int) := IntWalk.u64_in _ (by omega)
  go_enter Try.func86, Try.ntmps86
  go_wp2_with (fail)
  go_ret2
  exact ⟨rfl, rfl⟩
theorem mul_one_bits (m : Nat) (w : World) (hm : m ≤ 64) : Calls Try.prog 81 #[.int .u64 1, .int .u64 (m : Int)] w fun e w' => e = .returned (.tuple #[.int .u64 0, .int .u64 (m : Int)]) ∧ w = w' := by
  have HC := Lib.hid (mul64_one m w hm)
  go_enter Try.func81, Try.ntmps81
  go_wp2_with (fail)
  refine HC.out.mono ?_; rintro e w' ⟨rfl, rfl⟩
  go_wp2_with (fail)
  go_ret2
  exact ⟨rfl, rfl⟩

theorem setCellsW_owns {b e n c base : Nat} : ∀ (vs : List Value) (o : Nat) (xs : List Value) (w : World), w.ownsRow base e 1 (.slice (some ⟨b, 0, none⟩) n c) n xs → o + vs.length ≤ n →
    (w.setCells b o vs).ownsRow base e 1 (.slice (some ⟨b, 0, none⟩) n c) n (xs.take o ++ vs ++ xs.drop (o + vs.length)) ∧ w.grownBy (w.setCells b o vs) (some b)
  | [], o, xs, w, h, ho => ⟨by simpa [World.setCells] using h, World.grownBy.refl _ _⟩
  | v :: r, o, xs, w, h, ho => by
    have hl : xs.length = n := by have := h.1; simpa using this
    obtain ⟨s1, g1⟩ := h.stored o v
    obtain ⟨h2, g2⟩ := setCellsW_owns r (o + 1) (xs.set o v) _ s1 (by simp at ho; omega)
    refine ⟨?_, World.grownBy.trans_ g1 g2⟩
    have e1 : (xs.set o v).take (o + 1) = xs.take o ++ [v] := by
      rw [List.take_succ_eq_append_getElem (by simp at ho ⊢; omega), List.take_set_of_le (Nat.le_refl _)]
      simp
    have e2 : (xs.set o v).drop (o + 1 + r.length) = xs.drop (o + (v :: r).length) := by
      rw [List.drop_set_of_lt (by omega)]
      congr 1
      simp
      omega
    rw [e1, e2] at h2
    simpa [World.setCells] using h2
/-- A row whose first places hold one value. -/
theorem fill_list (u z : Value) (n k m : Nat) (h : n + k ≤ m) : (List.replicate n u ++ List.replicate (m - n) z).take n ++ List.replicate k u ++ (List.replicate n u ++ List.replicate (m - n) z).drop (n + k) = List.replicate (n + k) u ++ List.replicate (m - (n + k)) z := by
  rw [List.take_left' (by simp), List.drop_append, List.drop_of_length_le (by simp), List.nil_append, List.drop_replicate, List.replicate_append_replicate]
  simp only [List.length_replicate]
  rw [show m - n - (n + k - n) = m - (n + k) by omega]
theorem rep_sz : (Try.prog.info? 24).map (·.size) = some 1 := by
  obtain ⟨iT, hi, hz0, hz1, hz2⟩ := info_parts infoS
  rw [hi]; simp [hz1]
/-- The first place is filled. -/
theorem rep_first {w w1 : World} {vb m : Nat} {u : Value} (h0 : 1 ≤ m) (h1 : u.oneCell' = true) (hu : w.cell? ⟨vb, 0, none⟩ = some u) (gr1 : w.grownBy w1 none)
    (own0 : w1.ownsRow w.heap.size 24 1 (.slice (some ⟨w.heap.size, 0, none⟩) m m) m (madeCells (Value.slice none 0 0).cells (m * 1)).toList) :
    (∀ ty, (Builtin.copy_ #[37, 37] ty #[.slice (some ⟨w.heap.size, 0, none⟩) m m, .slice (some ⟨vb, 0, none⟩) 1 1]).run Try.prog w1 = .ok (.int .i64 1) (w1.setCells w.heap.size 0 [u])) ∧
    (w1.setCells w.heap.size 0 [u]).ownsRow w.heap.size 24 1 (.slice (some ⟨w.heap.size, 0, none⟩) m m) m (List.replicate 1 u ++ List.replicate (m - 1) (Value.slice none 0 0)) ∧ Below w.heap.size w (w1.setCells w.heap.size 0 [u]) := by
  have own1 := own0
  rw [show (madeCells (Value.slice none 0 0).cells (m * 1)).toList = List.replicate 0 u ++ List.replicate (m - 0) (Value.slice none 0 0) by
    show (madeCells #[Value.slice none 0 0] (m * 1)).toList = _
    rw [toList_madeCells_one]
    simp] at own1
  obtain ⟨o2, g2⟩ := setCellsW_owns [u] 0 _ _ own1 (by simp; omega)
  refine ⟨fun ty => run_copy_cells (P := Try.prog) w1 _ 37 ty 24 w.heap.size 0 m m ⟨vb, 0, none⟩ 1 1 [u] Try.underlying37 rep_sz (by simp only [Nat.min_def, List.length_singleton]; split <;> omega)
      (fun j v hj => by
        cases j with
        | zero =>
          simp at hj
          subst hj
          rw [Addr.add_lit]
          exact gr1.cell hu (by simp)
        | succ j => simp at hj)
      (fun j hj => by
        have hl := own1.1
        rw [own1.cellAt (0 + j) (by simp at hj; omega), List.getElem?_eq_getElem (by simp at hj hl ⊢; omega)]
        rfl) (fun j hj => own1.frozenAt _) (by simpa using h1), ?_, ((Below.refl _ _).grown gr1 (Nat.le_refl _) (fun k hk => by simp at hk)).grown g2 gr1.size (fun k hk => by cases hk; omega)⟩
  have e := fill_list u (Value.slice none 0 0) 0 1 m (by omega)
  rw [show ([u] : List Value) = List.replicate 1 u from rfl] at o2 ⊢
  rw [List.length_replicate, e] at o2
  exact o2
/-- As many places more as there are filled ones, or all that are left. -/
theorem rep_more {B : Nat} {w : World} {n k m : Nat} {u : Value} (hk : k = min (m - n) n) (hn : 1 ≤ n) (hm : n < m) (h1 : u.oneCell' = true)
    (own : w.ownsRow B 24 1 (.slice (some ⟨B, 0, none⟩) m m) m (List.replicate n u ++ List.replicate (m - n) (Value.slice none 0 0))) :
    (∀ ty dc sc, (Builtin.copy_ #[37, 37] ty #[.slice (some ⟨B, n, none⟩) (m - n) dc, .slice (some ⟨B, 0, none⟩) n sc]).run Try.prog w = .ok (.int .i64 (k : Int)) (w.setCells B n (List.replicate k u))) ∧
    (w.setCells B n (List.replicate k u)).ownsRow B 24 1 (.slice (some ⟨B, 0, none⟩) m m) m (List.replicate (n + k) u ++ List.replicate (m - (n + k)) (Value.slice none 0 0)) ∧ w.grownBy (w.setCells B n (List.replicate k u)) (some B) := by
  obtain ⟨o2, g2⟩ := setCellsW_owns (List.replicate k u) n _ _ own (by simp; omega)
  refine ⟨fun ty dc sc => ?_, ?_, g2⟩
  · have h := run_copy_cells (P := Try.prog) w 37 37 ty 24 B n (m - n) dc ⟨B, 0, none⟩ n sc (List.replicate k u) Try.underlying37 rep_sz (by simp only [List.length_replicate, Nat.min_def] at hk ⊢; rw [hk]; split <;> split <;> omega)
      (fun j v hj => by
        obtain ⟨hj1, hj2⟩ := List.getElem?_eq_some_iff.1 hj
        simp at hj1 hj2
        subst hj2
        rw [Addr.add_lit, own.cellAt (0 + j) (by omega), Nat.zero_add, List.getElem?_append_left (by rw [List.length_replicate]; omega), List.getElem?_replicate, if_pos (by omega)])
      (fun j hj => by
        have hl := own.1
        rw [List.length_replicate] at hj
        rw [own.cellAt (n + j) (by omega), List.getElem?_eq_getElem (by omega)]
        rfl) (fun j hj => own.frozenAt _) (fun v hv => by rw [List.eq_of_mem_replicate hv]; exact h1)
    rw [List.length_replicate] at h
    exact h
  · rw [List.length_replicate, fill_list u _ n k m (by omega)] at o2
    exact o2
set_option maxRecDepth 100000 in
set_option maxHeartbeats 2000000 in
theorem repeat_some (vb m : Nat) (u : Value) (w : World) (hm : m ≤ 64) (h0 : 1 ≤ m) (h1 : u.oneCell' = true) (hu : w.cell? ⟨vb, 0, none⟩ = some u) :
    Calls Try.prog 66 #[.slice (some ⟨vb, 0, none⟩) 1 1, .int .i64 (m : Int)] w fun e w' => e = .returned (.slice (some ⟨w.heap.size, 0, none⟩) m m) ∧ w'.ownsRow w.heap.size 24 1 (.slice (some ⟨w.heap.size, 0, none⟩) m m) m (List.replicate m u) ∧ Below w.heap.size w w' := by
  obtain ⟨iT, hi, hz0, hz1, hz2⟩ := info_parts infoS
  have hvb : vb < w.heap.size := block_lt_of_cell hu
  have HM := Lib.hid (mul_one_bits m w hm)
  have hsz : (Try.prog.info? 24).map (·.size) = some 1 := by rw [hi]; simp [hz1]
  have c1 : ¬ ((m : Int) < 0) := by omega
  have c2 : IntKind.u64.wrap (m : Int) = (m : Int) := IntWalk.u64_in _ (by omega)
  have c3 : IntKind.i64.wrap (m : Int) = (m : Int) := IntWalk.i64_in _ (by omega)
  have c4 : ¬ ((9223372036854775807 : Int) < (m : Int)) := by omega
  go_enter Try.func66, Try.ntmps66
  go_wp2_with (fail)
  refine HM.out.mono ?_; rintro e w' ⟨rfl, rfl⟩
  go_wp2_with (first | (refine wpList_make_full _ rfl (.tmp 29) (.tmp 29) 37 rfl w.heap.size 24 iT (.slice none 0 0) 1 Try.underlying37 hi hz0 hz1 .i64 .i64 (m : Int) (m : Int) m rfl rfl rfl rfl (by rw [hz2]; omega) (by unfold maxLen; omega) (Nat.le_refl _) ?_; intro w1 own1 gr1; obtain ⟨hcp1, o2, bel1⟩ := rep_first h0 h1 hu gr1 own1; replace hcp1 := Lib.hid hcp1; replace o2 := Lib.hid o2) | ((refine wpList_copy_runI _ rfl _ _ 37 37 rfl _ _ rfl rfl (hcp1.out _) ?_)))

  go_loopw [8] (fun s8 wr => ∃ n : Nat, s8 = .int .i64 (n : Int) ∧ 1 ≤ n ∧ n ≤ m ∧ Hid (wr.ownsRow w.heap.size 24 1 (.slice (some ⟨w.heap.size, 0, none⟩) m m) m (List.replicate n u ++ List.replicate (m - n) (Value.slice none 0 0))) ∧ Below w.heap.size w wr) (fun s8 _ => m - (intOf s8).toNat)
  case atStart => exact ⟨1, rfl, by omega, by omega, o2, bel1⟩
  case round =>
    obtain ⟨n, rfl, hn1, hnm, own, bel⟩ := hrel
    clear o2 bel1 hcp1
    by_cases hlt : n < m
    · obtain ⟨k, hk⟩ : ∃ k, k = min (m - n) n := ⟨_, rfl⟩
      obtain ⟨hcp, o3, g3⟩ := rep_more hk hn1 hlt h1 (show wr.drew.ownsRow w.heap.size 24 1 (.slice (some ⟨w.heap.size, 0, none⟩) m m) m _ from own.out)
      have HCP := Lib.hid hcp
      have HO3 := Lib.hid o3
      have hk1 : 1 ≤ k := by omega
      have hk2 : n + k ≤ m := by omega
      have L3 : Below w.heap.size w (wr.drew.setCells w.heap.size n (List.replicate k u)) := bel.drew.grown g3 bel.size (fun q hq => by cases hq; omega)
      have i0 : (0 : Int) ≤ (n : Int) := by omega
      have i1 : (n : Int) < (m : Int) := by omega
      have i2 : (n : Int) ≤ (m : Int) := by omega
      have i3 : ¬ m = n := by omega
      have wp1 : IntKind.i64.wrap ((n : Int) + (k : Int)) = (n : Int) + (k : Int) := IntWalk.i64_in _ (by omega)
      clear hcp o3 g3 hk
      go_wp2_with (fail)
      go_region_law ((refine step_copy_runI rfl _ _ 37 37 rfl (.slice (some ⟨w.heap.size, n, none⟩) (m - n) (m - n)) (.slice (some ⟨w.heap.size, 0, none⟩) n m) (by simp [Act.eval, Act.put]) (by simp [Act.eval, Act.put]) (HCP.out _ _ _) ?_))
      all_goals
        go_wp2_with (fail)
        simp [Act.put, go_sem, wp1]
        exact ⟨⟨n + k, by go_num, by omega, by omega, HO3, L3⟩, by simp [intOf]; omega⟩
    · obtain rfl : n = m := by omega
      have i1 : ¬ ((n : Int) < (n : Int)) := by omega
      go_wp2_with (fail)
      go_ret
      refine ⟨rfl, ?_, bel⟩
      have := own.out
      simpa using this
set_option maxRecDepth 100000 in
set_option maxHeartbeats 1000000 in
theorem repeat_none (vb : Nat) (w : World) :
    Calls Try.prog 66 #[.slice (some ⟨vb, 0, none⟩) 1 1, .int .i64 0] w fun e w' => (∃ V d, e = .returned (.slice V 0 d)) ∧ Below w.heap.size w w' := by
  obtain ⟨iT, hi, hz0, hz1, hz2⟩ := info_parts infoS
  have HM := Lib.hid (mul_one_bits 0 w (by omega))
  go_enter Try.func66, Try.ntmps66
  go_wp2_with (fail)
  refine HM.out.mono ?_; rintro e w' ⟨rfl, rfl⟩
  go_wp2_with (first | (refine wpList_make_full _ rfl (.tmp 29) (.tmp 29) 37 rfl w.heap.size 24 iT (.slice none 0 0) 1 Try.underlying37 hi hz0 hz1 .i64 .i64 (0 : Int) (0 : Int) 0 rfl rfl rfl rfl (by rw [hz2]; omega) (by unfold maxLen; omega) (Nat.le_refl _) ?_; intro w1 own1 gr1) | (refine wpList_copy_runI _ rfl _ _ 37 37 rfl _ _ rfl rfl (run_copy_none w1 _ _ _ 24 _ _ _ _ _ _ Try.underlying37 rep_sz (by simp)) ?_))
  go_loopw [8] (fun s8 wr => s8 = .int .i64 0 ∧ Below w.heap.size w wr) (fun s8 _ => 0)
  case atStart => exact ⟨rfl, (Below.refl _ _).grown gr1 (Nat.le_refl _) (fun k hk => by simp at hk)⟩
  case round =>
    obtain ⟨rfl, bel⟩ := hrel
    go_wp2_with (fail)
    go_ret
    exact ⟨⟨_, _, rfl⟩, bel⟩
/-- A word repeated: a list that reads so. -/
theorem repeat_any (vb m c : Nat) (A : Option Addr) (x : List Int) (w : World) (hm : m ≤ 64) (hu : w.cell? ⟨vb, 0, none⟩ = some (.slice A x.length c)) (hx : RdI w A x) (hl : x.length ≤ maxLen) :
    Calls Try.prog 66 #[.slice (some ⟨vb, 0, none⟩) 1 1, .int .i64 (m : Int)] w fun e w' => ∃ V d, e = .returned (.slice V m d) ∧ RdW w' V (List.replicate m x) ∧ Below w.heap.size w w' := by
  rcases Nat.eq_zero_or_pos m with rfl | h0
  · refine (repeat_none vb w).mono ?_
    rintro e w' ⟨⟨V, d, rfl⟩, bel⟩
    exact ⟨V, d, rfl, fun i hi => by simp at hi, bel⟩
  · refine (repeat_some vb m _ w hm h0 rfl hu).mono ?_
    rintro e w' ⟨rfl, own, bel⟩
    refine ⟨_, _, rfl, fun i hi => ?_, bel⟩
    simp only [List.length_replicate] at hi
    have e1 : (List.replicate m x).getD i [] = x := by rw [List.getD_eq_getElem?_getD, List.getElem?_replicate, if_pos hi]; rfl
    rw [e1]
    refine ⟨_, 0, A, c, rfl, (World.ownsRow.lt own _ rfl).2, ?_, hl, hx.below' bel⟩
    rw [Nat.zero_add, own.cellAt i (by omega), List.getElem?_replicate, if_pos hi]
end Go.Proofs.Ythakglpgcpkpaaa
