/- slices.Repeat, slices.Grow and slices.Concat at whole numbers. -/
import Derived.Test.YteappjgdcbploaaNumPr
import Derived.Test.YteappjgdcbploaaKB
import Derived.Shelf.Spec.SlicesInsert
import Derived.Deep.RegionLaw
import Derived.Lib.AppendZerosOnto
namespace Go.Proofs.Yteappjgdcbploaa
open Go.RowKit
set_option linter.unusedVariables false
set_option linter.unusedSimpArgs false

theorem and_lowI (m : Nat) (hm : m ≤ 64) : bits BinOp.and IntKind.u64 (m : Int) 4294967295 = (m : Int) := by
  have : ∀ n : Nat, n < 65 → bits BinOp.and IntKind.u64 (n : Int) 4294967295 = (n : Int) := by decide +kernel
  exact this m (by omega)
set_option maxHeartbeats 1000000 in
theorem mul64_oneI (m : Nat) (w : World) (hm : m ≤ 64) : Calls Try.prog 169 #[.int .u64 1, .int .u64 (m : Int)] w fun e w' => e = .returned (.tuple #[.int .u64 0, .int .u64 (m : Int)]) ∧ w = w' := by
  have b1 : bits BinOp.and IntKind.u64 1 4294967295 = 1 := by decide +kernel
  have b2 := and_lowI m hm
  have b0 : bits BinOp.and IntKind.u64 0 4294967295 = 0 := by decide +kernel
  have d1 : (m : Int) / 4294967296 = 0 := by omega
  have w1 : IntKind.u64.wrap (m : Int) = (m : Int) := IntWalk.u64_in _ (by omega)
  go_enter Try.func169, Try.ntmps169
  go_wp2_with (fail)
  go_ret2
  exact ⟨rfl, rfl⟩
theorem mul_one_bitsI (m : Nat) (w : World) (hm : m ≤ 64) : Calls Try.prog 160 #[.int .u64 1, .int .u64 (m : Int)] w fun e w' => e = .returned (.tuple #[.int .u64 0, .int .u64 (m : Int)]) ∧ w = w' := by
  have HC := Lib.hid (mul64_oneI m w hm)
  go_enter Try.func160, Try.ntmps160
  go_wp2_with (fail)
  refine HC.out.mono ?_; rintro e w' ⟨rfl, rfl⟩
  go_wp2_with (fail)
  go_ret2
  exact ⟨rfl, rfl⟩

theorem setCellsW_ownsI {b e n c base : Nat} : ∀ (vs : List Value) (o : Nat) (xs : List Value) (w : World), w.ownsRow base e 1 (.slice (some ⟨b, 0, none⟩) n c) n xs → o + vs.length ≤ n →
    (w.setCells b o vs).ownsRow base e 1 (.slice (some ⟨b, 0, none⟩) n c) n (xs.take o ++ vs ++ xs.drop (o + vs.length)) ∧ w.grownBy (w.setCells b o vs) (some b)
  | [], o, xs, w, h, ho => ⟨by simpa [World.setCells] using h, World.grownBy.refl _ _⟩
  | v :: r, o, xs, w, h, ho => by
    have hl : xs.length = n := by have := h.1; simpa using this
    obtain ⟨s1, g1⟩ := h.stored o v
    obtain ⟨h2, g2⟩ := setCellsW_ownsI r (o + 1) (xs.set o v) _ s1 (by simp at ho; omega)
    refine ⟨?_, World.grownBy.trans_ g1 g2⟩
    have e1 : (xs.set o v).take (o + 1) = xs.take o ++ [v] := by
      rw [List.take_succ_eq_append_getElem (by simp at ho ⊢; omega), List.take_set_of_le (Nat.le_refl _)]
      simp
    have e2 : (xs.set o v).drop (o + 1 + r.length) = xs.drop (o + (v :: r).length) := by
      rw [List.drop_set_of_lt (by omega)]
      congr 1
      simp
      omega
    rw [e1, e2] at h2
    simpa [World.setCells] using h2
/-- A row whose first places hold one value. -/
theorem fill_listI (u z : Value) (n k m : Nat) (h : n + k ≤ m) : (List.replicate n u ++ List.replicate (m - n) z).take n ++ List.replicate k u ++ (List.replicate n u ++ List.replicate (m - n) z).drop (n + k) = List.replicate (n + k) u ++ List.replicate (m - (n + k)) z := by
  rw [List.take_left' (by simp), List.drop_append, List.drop_of_length_le (by simp), List.nil_append, List.drop_replicate, List.replicate_append_replicate]
  simp only [List.length_replicate]
  rw [show m - n - (n + k - n) = m - (n + k) by omega]
theorem rep_szI : (Try.prog.info? 2).map (·.size) = some 1 := by
  obtain ⟨iT, hi, hz0, hz1, hz2⟩ := info_parts infoI
  rw [hi]; simp [hz1]
/-- The first place is filled. -/
theorem rep_firstI {w w1 : World} {vb m : Nat} {u : Value} (h0 : 1 ≤ m) (h1 : u.oneCell' = true) (hu : w.cell? ⟨vb, 0, none⟩ = some u) (gr1 : w.grownBy w1 none)
    (own0 : w1.ownsRow w.heap.size 2 1 (.slice (some ⟨w.heap.size, 0, none⟩) m m) m (madeCells (Value.int .i64 0).cells (m * 1)).toList) :
    (∀ ty, (Builtin.copy_ #[22, 22] ty #[.slice (some ⟨w.heap.size, 0, none⟩) m m, .slice (some ⟨vb, 0, none⟩) 1 1]).run Try.prog w1 = .ok (.int .i64 1) (w1.setCells w.heap.size 0 [u])) ∧
    (w1.setCells w.heap.size 0 [u]).ownsRow w.heap.size 2 1 (.slice (some ⟨w.heap.size, 0, none⟩) m m) m (List.replicate 1 u ++ List.replicate (m - 1) (Value.int .i64 0)) ∧ Below w.heap.size w (w1.setCells w.heap.size 0 [u]) := by
  have own1 := own0
  rw [show (madeCells (Value.int .i64 0).cells (m * 1)).toList = List.replicate 0 u ++ List.replicate (m - 0) (Value.int .i64 0) by
    show (madeCells #[Value.int .i64 0] (m * 1)).toList = _
    rw [toList_madeCells_one]
    simp] at own1
  obtain ⟨o2, g2⟩ := setCellsW_ownsI [u] 0 _ _ own1 (by simp; omega)
  refine ⟨fun ty => run_copy_cells (P := Try.prog) w1 _ 22 ty 2 w.heap.size 0 m m ⟨vb, 0, none⟩ 1 1 [u] Try.underlying22 rep_szI (by simp only [Nat.min_def, List.length_singleton]; split <;> omega)
      (fun j v hj => by
        cases j with
        | zero =>
          simp at hj
          subst hj
          rw [Addr.add_lit]
          exact gr1.cell hu (by simp)
        | succ j => simp at hj)
      (fun j hj => by
        have hl := own1.1
        rw [own1.cellAt (0 + j) (by simp at hj; omega), List.getElem?_eq_getElem (by simp at hj hl ⊢; omega)]
        rfl) (fun j hj => own1.frozenAt _) (by simpa using h1), ?_, ((Below.refl _ _).grown gr1 (Nat.le_refl _) (fun k hk => by simp at hk)).grown g2 gr1.size (fun k hk => by cases hk; omega)⟩
  have e := fill_listI u (Value.int .i64 0) 0 1 m (by omega)
  rw [show ([u] : List Value) = List.replicate 1 u from rfl] at o2 ⊢
  rw [List.length_replicate, e] at o2
  exact o2
/-- As many places more as there are filled ones, or all that are left. -/
theorem rep_moreI {B : Nat} {w : World} {n k m : Nat} {u : Value} (hk : k = min (m - n) n) (hn : 1 ≤ n) (hm : n < m) (h1 : u.oneCell' = true)
    (own : w.ownsRow B 2 1 (.slice (some ⟨B, 0, none⟩) m m) m (List.replicate n u ++ List.replicate (m - n) (Value.int .i64 0))) :
    (∀ ty dc sc, (Builtin.copy_ #[22, 22] ty #[.slice (some ⟨B, n, none⟩) (m - n) dc, .slice (some ⟨B, 0, none⟩) n sc]).run Try.prog w = .ok (.int .i64 (k : Int)) (w.setCells B n (List.replicate k u))) ∧
    (w.setCells B n (List.replicate k u)).ownsRow B 2 1 (.slice (some ⟨B, 0, none⟩) m m) m (List.replicate (n + k) u ++ List.replicate (m - (n + k)) (Value.int .i64 0)) ∧ w.grownBy (w.setCells B n (List.replicate k u)) (some B) := by
  obtain ⟨o2, g2⟩ := setCellsW_ownsI (List.replicate k u) n _ _ own (by simp; omega)
  refine ⟨fun ty dc sc => ?_, ?_, g2⟩
  · have h := run_copy_cells (P := Try.prog) w 22 22 ty 2 B n (m - n) dc ⟨B, 0, none⟩ n sc (List.replicate k u) Try.underlying22 rep_szI (by simp only [List.length_replicate, Nat.min_def] at hk ⊢; rw [hk]; split <;> split <;> omega)
      (fun j v hj => by
        obtain ⟨hj1, hj2⟩ := List.getElem?_eq_some_iff.1 hj
        simp at hj1 hj2
        subst hj2
        rw [Addr.add_lit, own.cellAt (0 + j) (by omega), Nat.zero_add, List.getElem?_append_left (by rw [List.length_replicate]; omega), List.getElem?_replicate, if_pos (by omega)])
      (fun j hj => by
        have hl := own.1
        rw [List.length_replicate] at hj
        rw [own.cellAt (n + j) (by omega), List.getElem?_eq_getElem (by omega)]
        rfl) (fun j hj => own.frozenAt _) (fun v hv => by rw [List.eq_of_mem_replicate hv]; exact h1)
    rw [List.length_replicate] at h
    exact h
  · rw [List.length_replicate, fill_listI u _ n k m (by omega)] at o2
    exact o2
set_option maxRecDepth 100000 in
set_option maxHeartbeats 2000000 in
theorem repeat_someI (vb m : Nat) (u : Value) (w : World) (hm : m ≤ 64) (h0 : 1 ≤ m) (h1 : u.oneCell' = true) (hu : w.cell? ⟨vb, 0, none⟩ = some u) :
    Calls Try.prog 146 #[.slice (some ⟨vb, 0, none⟩) 1 1, .int .i64 (m : Int)] w fun e w' => e = .returned (.slice (some ⟨w.heap.size, 0, none⟩) m m) ∧ w'.ownsRow w.heap.size 2 1 (.slice (some ⟨w.heap.size, 0, none⟩) m m) m (List.replicate m u) ∧ Below w.heap.size w w' := by
  obtain ⟨iT, hi, hz0, hz1, hz2⟩ := info_parts infoI
  have hvb : vb < w.heap.size := block_lt_of_cell hu
  have HM := Lib.hid (mul_one_bitsI m w hm)
  have hsz : (Try.prog.info? 2).map (·.size) = some 1 := by rw [hi]; simp [hz1]
  have c1 : ¬ ((m : Int) < 0) := by omega
  have c2 : IntKind.u64.wrap (m : Int) = (m : Int) := IntWalk.u64_in _ (by omega)
  have c3 : IntKind.i64.wrap (m : Int) = (m : Int) := IntWalk.i64_in _ (by omega)
  have c4 : ¬ ((9223372036854775807 : Int) < (m : Int)) := by omega
  go_enter Try.func146, Try.ntmps146
  go_wp2_with (fail)
  refine HM.out.mono ?_; rintro e w' ⟨rfl, rfl⟩
  go_wp2_with (first | (refine wpList_make_full _ rfl (.tmp 29) (.tmp 29) 22 rfl w.heap.size 2 iT (.int .i64 0) 1 Try.underlying22 hi hz0 hz1 .i64 .i64 (m : Int) (m : Int) m rfl rfl rfl rfl (by rw [hz2]; omega) (by unfold maxLen; omega) (Nat.le_refl _) ?_; intro w1 own1 gr1; obtain ⟨hcp1, o2, bel1⟩ := rep_firstI h0 h1 hu gr1 own1; replace hcp1 := Lib.hid hcp1; replace o2 := Lib.hid o2) | ((refine wpList_copy_runI _ rfl _ _ 22 22 rfl _ _ rfl rfl (hcp1.out _) ?_)))

  go_loopw [8] (fun s8 wr => ∃ n : Nat, s8 = .int .i64 (n : Int) ∧ 1 ≤ n ∧ n ≤ m ∧ Hid (wr.ownsRow w.heap.size 2 1 (.slice (some ⟨w.heap.size, 0, none⟩) m m) m (List.replicate n u ++ List.replicate (m - n) (Value.int .i64 0))) ∧ Below w.heap.size w wr) (fun s8 _ => m - (intOf s8).toNat)
  case atStart => exact ⟨1, rfl, by omega, by omega, o2, bel1⟩
  case round =>
    obtain ⟨n, rfl, hn1, hnm, own, bel⟩ := hrel
    clear o2 bel1 hcp1
    by_cases hlt : n < m
    · obtain ⟨k, hk⟩ : ∃ k, k = min (m - n) n := ⟨_, rfl⟩
      obtain ⟨hcp, o3, g3⟩ := rep_moreI hk hn1 hlt h1 (show wr.drew.ownsRow w.heap.size 2 1 (.slice (some ⟨w.heap.size, 0, none⟩) m m) m _ from own.out)
      have HCP := Lib.hid hcp
      have HO3 := Lib.hid o3
      have hk1 : 1 ≤ k := by omega
      have hk2 : n + k ≤ m := by omega
      have L3 : Below w.heap.size w (wr.drew.setCells w.heap.size n (List.replicate k u)) := bel.drew.grown g3 bel.size (fun q hq => by cases hq; omega)
      have i0 : (0 : Int) ≤ (n : Int) := by omega
      have i1 : (n : Int) < (m : Int) := by omega
      have i2 : (n : Int) ≤ (m : Int) := by omega
      have i3 : ¬ m = n := by omega
      have wp1 : IntKind.i64.wrap ((n : Int) + (k : Int)) = (n : Int) + (k : Int) := IntWalk.i64_in _ (by omega)
      clear hcp o3 g3 hk
      go_wp2_with (fail)
      go_region_law ((refine step_copy_runI rfl _ _ 22 22 rfl (.slice (some ⟨w.heap.size, n, none⟩) (m - n) (m - n)) (.slice (some ⟨w.heap.size, 0, none⟩) n m) (by simp [Act.eval, Act.put]) (by simp [Act.eval, Act.put]) (HCP.out _ _ _) ?_))
      all_goals
        go_wp2_with (fail)
        simp [Act.put, go_sem, wp1]
        exact ⟨⟨n + k, by go_num, by omega, by omega, HO3, L3⟩, by simp [intOf]; omega⟩
    · obtain rfl : n = m := by omega
      have i1 : ¬ ((n : Int) < (n : Int)) := by omega
      go_wp2_with (fail)
      go_ret
      refine ⟨rfl, ?_, bel⟩
      have := own.out
      simpa using this
set_option maxRecDepth 100000 in
set_option maxHeartbeats 1000000 in
theorem repeat_noneI (vb : Nat) (w : World) :
    Calls Try.prog 146 #[.slice (some ⟨vb, 0, none⟩) 1 1, .int .i64 0] w fun e w' => (∃ V d, e = .returned (.slice V 0 d)) ∧ Below w.heap.size w w' := by
  obtain ⟨iT, hi, hz0, hz1, hz2⟩ := info_parts infoI
  have HM := Lib.hid (mul_one_bitsI 0 w (by omega))
  go_enter Try.func146, Try.ntmps146
  go_wp2_with (fail)
  refine HM.out.mono ?_; rintro e w' ⟨rfl, rfl⟩
  go_wp2_with (first | (refine wpList_make_full _ rfl (.tmp 29) (.tmp 29) 22 rfl w.heap.size 2 iT (.int .i64 0) 1 Try.underlying22 hi hz0 hz1 .i64 .i64 (0 : Int) (0 : Int) 0 rfl rfl rfl rfl (by rw [hz2]; omega) (by unfold maxLen; omega) (Nat.le_refl _) ?_; intro w1 own1 gr1) | (refine wpList_copy_runI _ rfl _ _ 22 22 rfl _ _ rfl rfl (run_copy_none w1 _ _ _ 2 _ _ _ _ _ _ Try.underlying22 rep_szI (by simp)) ?_))
  go_loopw [8] (fun s8 wr => s8 = .int .i64 0 ∧ Below w.heap.size w wr) (fun s8 _ => 0)
  case atStart => exact ⟨rfl, (Below.refl _ _).grown gr1 (Nat.le_refl _) (fun k hk => by simp at hk)⟩
  case round =>
    obtain ⟨rfl, bel⟩ := hrel
    go_wp2_with (fail)
    go_ret
    exact ⟨⟨_, _, rfl⟩, bel⟩
set_option maxRecDepth 100000 in
set_option maxHeartbeats 1000000 in
theorem growI_any (n : Nat) (w : World) (hn2 : n ≤ 1000) :
    Calls Try.prog 150 #[.slice none 0 0, .int .i64 n] w fun e w' => ∃ v, e = .returned v ∧ w'.ownsRow w.heap.size 2 1 v 0 [] ∧ Below w.heap.size w w' := by
  obtain ⟨i0, hi, hz0, hz1, hz2⟩ := info_parts infoI
  rcases Nat.eq_zero_or_pos n with rfl | hn
  · go_enter Try.func150, Try.ntmps150
    go_wp2_with (fail)
    go_ret
    exact ⟨_, rfl, World.ownsRow_nil _ _ _ _, Below.refl _ _⟩
  · have hold : (Builtin.firstCells i0.size 0 (.slice none 0 0)).run Try.prog w.drew = .ok ([] : List Value).toArray w.drew := run_firstCells_none w.drew _ 0 0 0
    have hrz : ∀ ty, (Builtin.append_ #[22, 3] ty #[.slice none 0 0, .int .i64 (n : Int)]).run Try.prog w =
        .ok (.slice (some ⟨w.heap.size, 0, none⟩) (0 + n) (grownCap w (0 + n) 0 2)) (w.drew.alloc (.cells (([] : List Value).toArray ++ Builtin.zeroCells (Value.int .i64 0).cells n ++ Builtin.zeroCells (Value.int .i64 0).cells (grownCap w (0 + n) 0 2 - (0 + n))) 2)) := fun ty =>
      Lib.run_append_grow_zeros w 22 3 ty 2 i0 _ .i64 .i64 Try.underlying22 Try.underlying3 hi hz0 none 0 0 [] hold n hn (by omega) (by omega) (by omega) (by rw [hz2]; omega) (by rw [hz2]; exact growslice_fits (by omega) (by omega))
    have hGn : 0 + n ≤ grownCap w (0 + n) 0 2 := grownCap_ge w _ _ _
    have hGm : grownCap w (0 + n) 0 2 ≤ maxLen := grownCap_le_maxLen w (0 + n) 0 2 (by unfold maxLen; omega)
    generalize grownCap w (0 + n) 0 2 = G at *
    obtain ⟨CLS, hCLS⟩ : ∃ R : Array Value, R = ([] : List Value).toArray ++ Builtin.zeroCells (Value.int .i64 0).cells n ++ Builtin.zeroCells (Value.int .i64 0).cells (G - (0 + n)) := ⟨_, rfl⟩
    rw [← hCLS] at hrz
    have hRl : CLS.size = G * 1 := by
      rw [hCLS]
      simp [Builtin.zeroCells, Value.cells]
      omega
    have own0 : (w.drew.alloc (.cells CLS 2)).ownsRow w.heap.size 2 1 (.slice (some ⟨w.heap.size, 0, none⟩) 0 G) 0 [] :=
      ⟨by simp, .inr ⟨w.heap.size, G, CLS, rfl, Nat.le_refl _, by show (w.heap.push _)[w.heap.size]? = _; simp, Nat.zero_le _, hGm, hRl, by simp⟩⟩
    have hb0 : Below w.heap.size w (w.drew.alloc (.cells CLS 2)) := (Below.refl _ _).drew.alloc (Nat.le_refl _) _
    have HO := Lib.hid own0
    have n1 : (0 : Int) < (n : Int) := by omega
    have n2 : ¬ (G = 0) := by omega
    clear hCLS hRl own0 hold
    go_enter Try.func150, Try.ntmps150
    go_wp2_with (at_builtin; refine Lib.wpList_append_run _ rfl _ _ _ _ rfl _ _ rfl rfl _ _ (hrz _) ?_)
    go_ret
    exact ⟨_, rfl, HO.out, hb0⟩
set_option maxRecDepth 100000 in
set_option maxHeartbeats 1000000 in
theorem concatI_any (v1 v2 : Value) (x y : List Int) (vb : Nat) (w : World) (hx : spI.rd w v1 x) (hy : spI.rd w v2 y) (hl : x.length + y.length ≤ 1000) (h0 : w.cell? ⟨vb, 0, none⟩ = some v1) (h1 : w.cell? ⟨vb, 1, none⟩ = some v2) :
    Calls Try.prog 130 #[.slice (some ⟨vb, 0, none⟩) 2 2] w fun e w' => ∃ v, e = .returned v ∧ OwnI w' w.heap.size v (x ++ y) ∧ Below w.heap.size w w' := by
  obtain ⟨i0, hi, hz0, hz1, hz2⟩ := info_parts infoI
  obtain ⟨A1, c1, rfl, -, hA1⟩ := hx
  obtain ⟨A2, c2, rfl, -, hA2⟩ := hy
  have hvb : vb < w.heap.size := block_lt_of_cell h0
  have HX := Lib.hid hA1
  have HY := Lib.hid hA2
  have one : ∀ (zs : List Int), ∀ u ∈ zs.map (Value.int .i64), u.oneCell' = true := fun zs u hu => by
    obtain ⟨z, _, rfl⟩ := List.mem_map.mp hu
    rfl
  have HONE := Lib.hid one
  have HG : Hid (Calls Try.prog 150 #[.slice none 0 0, .int .i64 ((x.length : Int) + (y.length : Int))] w fun e w' => ∃ v, e = .returned v ∧ w'.ownsRow w.heap.size 2 1 v 0 [] ∧ Below w.heap.size w w') := Lib.hid (by have h := growI_any (x.length + y.length) w (by omega); rwa [Int.natCast_add] at h)
  clear hA1 hA2 one
  go_enter Try.func130, Try.ntmps130
  go_wp2_with (fail)
  go_loop [3, 11] (fun s3 s11 => ∃ j : Nat, s11 = .int .i64 j ∧ ((j = 0 ∧ s3 = .int .i64 0) ∨ (j = 1 ∧ s3 = .int .i64 (x.length : Int)) ∨ (j = 2 ∧ s3 = .int .i64 ((x.length : Int) + (y.length : Int))))) (fun _ s11 => 2 - (intOf s11).toNat)
  case atStart => exact ⟨0, rfl, .inl ⟨rfl, rfl⟩⟩
  case round =>
    obtain ⟨j, rfl, hj⟩ := hrel
    rcases hj with ⟨rfl, rfl⟩ | ⟨rfl, rfl⟩ | ⟨rfl, rfl⟩
    · have l0 : ¬ ((x.length : Int) < 0) := by omega
      go_wp2_with (fail)
      exact ⟨⟨1, by go_num, .inr (.inl ⟨rfl, by go_num⟩)⟩, by simp [intOf]⟩
    · have l0 : ¬ ((x.length : Int) + (y.length : Int) < 0) := by omega
      go_wp2_with (fail)
      exact ⟨⟨2, by go_num, .inr (.inr ⟨rfl, rfl⟩)⟩, by simp [intOf]⟩
    · go_wp2_with (fail)
      refine HG.out.mono ?_; rintro e w1 ⟨v9, rfl, ow9, hb9⟩
      have HO9 : Hid (OwnI w1 w.heap.size v9 []) := Lib.hid ow9
      clear ow9 HG
      go_wp2_with (fail)
      go_loopw [6, 27] (fun s6 s27 wr => ∃ j : Nat, s27 = .int .i64 j ∧ ((j = 0 ∧ Hid (OwnI wr w.heap.size s6 [])) ∨ (j = 1 ∧ Hid (OwnI wr w.heap.size s6 x)) ∨ (j = 2 ∧ Hid (OwnI wr w.heap.size s6 (x ++ y)))) ∧ Below w.heap.size w wr) (fun _ s27 _ => 2 - (intOf s27).toNat)
      case atStart => exact ⟨0, rfl, .inl ⟨rfl, HO9⟩, hb9⟩
      case round =>
        obtain ⟨j, rfl, hj, bel⟩ := hrel
        clear HO9
        have c0 : wr.cell? ⟨vb, 0, none⟩ = some (.slice A1 x.length c1) := by rw [bel.cell hvb]; exact h0
        have c1' : wr.cell? ⟨vb, 1, none⟩ = some (.slice A2 y.length c2) := by rw [bel.cell hvb]; exact h1
        rcases hj with ⟨rfl, HOW⟩ | ⟨rfl, HOW⟩ | ⟨rfl, HOW⟩
        · have HB := Lib.hid HOW.out.base_le
          go_wp2_with (first | (at_builtin; refine wpList_append_listN _ rfl _ _ 22 rfl w.heap.size 2 i0 (.int .i64 0) 1 8 Try.underlying22 hi hz0 hz1 hz2 rfl (by decide) _ 0 [] rfl HOW.out A1 x.length c1 (x.map (Value.int .i64)) (by simp) rfl (HX.out.below' bel).cells (HONE.out x) (by unfold maxLen; omega) (by omega) bel.size ?_; intro v' w' own' gr' at'; replace gr' : wr.grownBy w' u6.ownBlock := gr'))
          have HO' : Hid (OwnI w' w.heap.size v' x) := Lib.hid (by unfold OwnI; simpa using own')
          have L := bel.grown gr' bel.size HB.out
          clear own' gr' at' c0 c1'
          go_wp2_with (fail)
          exact ⟨⟨1, by go_num, .inr (.inl ⟨rfl, HO'⟩), L⟩, by simp [intOf]⟩
        · have HB := Lib.hid HOW.out.base_le
          go_wp2_with (first | (at_builtin; refine wpList_append_listN _ rfl _ _ 22 rfl w.heap.size 2 i0 (.int .i64 0) 1 8 Try.underlying22 hi hz0 hz1 hz2 rfl (by decide) _ x.length (x.map (Value.int .i64)) rfl HOW.out A2 y.length c2 (y.map (Value.int .i64)) (by simp) rfl (HY.out.below' bel).cells (HONE.out y) (by unfold maxLen; omega) (by omega) bel.size ?_; intro v' w' own' gr' at'; replace gr' : wr.grownBy w' u6.ownBlock := gr'))
          have HO' : Hid (OwnI w' w.heap.size v' (x ++ y)) := Lib.hid (by unfold OwnI; simpa using own')
          have L := bel.grown gr' bel.size HB.out
          clear own' gr' at' c0 c1'
          go_wp2_with (fail)
          exact ⟨⟨2, by go_num, .inr (.inr ⟨rfl, HO'⟩), L⟩, by simp [intOf]⟩
        · clear c0 c1'
          go_wp2_with (fail)
          go_ret
          exact ⟨_, rfl, HOW.out, bel⟩
/-- One number repeated. -/
theorem repeatI_any (vb m : Nat) (y : Int) (w : World) (hm : m ≤ 64) (hu : w.cell? ⟨vb, 0, none⟩ = some (.int .i64 y)) :
    Calls Try.prog 146 #[.slice (some ⟨vb, 0, none⟩) 1 1, .int .i64 (m : Int)] w fun e w' => ∃ A c, e = .returned (.slice A m c) ∧ RdI w' A (List.replicate m y) ∧ (1 ≤ m → OwnI w' w.heap.size (.slice A m c) (List.replicate m y)) ∧ Below w.heap.size w w' := by
  rcases Nat.eq_zero_or_pos m with rfl | h0
  · refine (repeat_noneI vb w).mono ?_
    rintro e w' ⟨⟨V, d, rfl⟩, bel⟩
    exact ⟨V, d, rfl, RdI.nil _ _, fun h => by omega, bel⟩
  · refine (repeat_someI vb m _ w hm h0 rfl hu).mono ?_
    rintro e w' ⟨rfl, own, bel⟩
    have o : OwnI w' w.heap.size (.slice (some ⟨w.heap.size, 0, none⟩) m m) (List.replicate m y) := by
      unfold OwnI
      simpa using own
    exact ⟨_, _, rfl, o.reads, fun _ => o, bel⟩
end Go.Proofs.Yteappjgdcbploaa
