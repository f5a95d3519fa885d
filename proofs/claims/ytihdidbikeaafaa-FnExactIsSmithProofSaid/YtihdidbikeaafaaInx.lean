/- Lists of indices: owned, sought, those that are not among others. -/
import Derived.Test.YtihdidbikeaafaaKB
import Derived.Test.YtihdidbikeaafaaKC
import Derived.Maps.AppendAt
namespace Go.Proofs.Ytihdidbikeaafaa
open Go.RowKit
set_option linter.unusedVariables false
set_option linter.unusedSimpArgs false

theorem infoN : (Try.prog.info? 3).map (fun i => (i.zero, i.size, i.bytes)) = some (some (.int .i64 0), 1, 8) := by kernel_rfl
/-- A list of numbers of the type int in memory of the call's own. -/
def OwnN (w : World) (base : Nat) (v : Value) (xs : List Int) : Prop := w.ownsRow base 3 1 v xs.length (xs.map (Value.int .i64))
theorem OwnN.alloc {w : World} {base : Nat} {v : Value} {xs : List Int} (h : OwnN w base v xs) (o : Obj) : OwnN (w.alloc o) base v xs := World.ownsRow.alloc h o
theorem OwnN.snoc {w : World} {base : Nat} {v : Value} {xs : List Int} {x : Int} (h : w.ownsRow base 3 1 v (xs.length + 1) (xs.map (Value.int .i64) ++ [.int .i64 x])) : OwnN w base v (xs ++ [x]) := by
  unfold OwnN
  simpa using h
theorem OwnN.base_le {w : World} {base : Nat} {v : Value} {xs : List Int} (h : OwnN w base v xs) : ∀ k, v.ownBlock = some k → base ≤ k := fun k hk => (World.ownsRow.lt h k hk).1
theorem OwnN.nil (w : World) (base : Nat) : OwnN w base (.slice none 0 0) [] := World.ownsRow_nil _ _ _ _
theorem OwnN.rd {w : World} {base : Nat} {v : Value} {xs : List Int} (h : OwnN w base v xs) : spI.rd w v xs := by
  obtain ⟨A, cap, rfl, hm⟩ := ownsRow_cap h
  exact ⟨A, cap, rfl, hm, RdI.own h⟩
/-- The pivots of rows. -/
def Num.pivs (R : List (List Int)) : List Int := R.map fun r => (Num.lead r : Int)
theorem Num.pivs_length (R : List (List Int)) : (Num.pivs R).length = R.length := by simp [Num.pivs]
theorem Num.pivs_take {R : List (List Int)} {j : Nat} (h : j < R.length) : (Num.pivs R).take (j + 1) = (Num.pivs R).take j ++ [(Num.lead (R.getD j []) : Int)] := by
  unfold Num.pivs
  rw [List.take_succ_eq_append_getElem (by simpa using h)]
  simp [h]
/-- slices.Index over numbers: -1 where there is none. -/
theorem index_any (v : Value) (xs : List Int) (y : Int) (w : World) (h : spI.rd w v xs) (hl : xs.length ≤ 1000) :
    Calls Try.prog 121 #[v, .int .i64 y] w fun e w' => ∃ i : Int, e = .returned (.int .i64 i) ∧ (0 ≤ i ↔ y ∈ xs) ∧ w = w' := by
  obtain ⟨A, c, rfl, -, -⟩ := spI_form h
  have HR := Lib.hid h
  clear h
  go_enter Try.func121, Try.ntmps121
  go_wp2_with (fail)
  go_loop [8] (fun s => ∃ j : Nat, s = .int .i64 j ∧ j ≤ xs.length ∧ Hid (∀ i, i < j → xs.getD i 0 ≠ y)) (fun s => xs.length - (intOf s).toNat)
  case atStart => exact ⟨0, rfl, by omega, Lib.hid fun i hi => by omega⟩
  case round =>
    obtain ⟨j, rfl, hj, hz⟩ := hrel
    by_cases hlt : j < xs.length
    · obtain ⟨g, o, rfl, hg, hc⟩ := spI_at HR.out hlt
      have i0 : (0 : Int) ≤ (j : Int) := by omega
      have i1 : (j : Int) < (xs.length : Int) := by omega
      by_cases hy : xs.getD j 0 = y
      · have HM : Hid (y ∈ xs) := Lib.hid (by rw [← hy]; exact Num.mem_getD 0 hlt)
        rw [hy] at hc
        clear hy
        go_wp2_with (fail)
        go_ret
        exact ⟨_, rfl, ⟨fun _ => HM.out, fun _ => by omega⟩, rfl⟩
      · have HZ : Hid (∀ i, i < j + 1 → xs.getD i 0 ≠ y) := Lib.hid fun i hi => by
          by_cases e : i = j
          · rw [e]; exact hy
          · exact hz.out i (by omega)
        have tE : (y == xs.getD j 0) = false := by simpa using fun e => hy e.symm
        clear hy
        generalize xs.getD j 0 = q at *
        go_wp2_with (fail)
        exact ⟨⟨j + 1, by go_num, by omega, HZ⟩, by simp [intOf]; omega⟩
    · obtain rfl : j = xs.length := by omega
      have hge : ¬ ((xs.length : Int) < (xs.length : Int)) := by omega
      have HM : Hid (¬ y ∈ xs) := Lib.hid fun h => by
        obtain ⟨i, hi, e⟩ := List.getElem_of_mem h
        exact hz.out i hi (by simp [List.getD_eq_getElem?_getD, hi, e])
      go_wp2_with (fail)
      go_ret
      exact ⟨-1, rfl, ⟨fun h => absurd h (by decide), fun h => absurd h HM.out⟩, rfl⟩
theorem contains_any (v : Value) (xs : List Int) (y : Int) (w : World) (h : spI.rd w v xs) (hl : xs.length ≤ 1000) :
    Calls Try.prog 117 #[v, .int .i64 y] w fun e w' => e = .returned (.bool (decide (y ∈ xs))) ∧ w = w' := by
  obtain ⟨A, c, rfl, -, -⟩ := spI_form h
  have HC := Lib.hid (index_any _ xs y w h hl)
  clear h
  go_enter Try.func117, Try.ntmps117
  go_wp2_with (fail)
  refine HC.out.mono ?_; rintro e w' ⟨i, rfl, hi, rfl⟩
  by_cases hm : y ∈ xs
  · have i0 : (0 : Int) ≤ i := hi.2 hm
    have HM := Lib.hid hm
    clear hi hm
    go_wp2_with (fail)
    go_ret
    exact ⟨by rw [decide_eq_true HM.out]; rfl, rfl⟩
  · have i0 : ¬ (0 : Int) ≤ i := fun e => hm (hi.1 e)
    have HM := Lib.hid hm
    clear hi hm
    go_wp2_with (fail)
    go_ret
    exact ⟨by rw [decide_eq_false HM.out]; show Ending.returned (.bool (decide (0 ≤ i))) = _; rw [decide_eq_false (by omega)], rfl⟩
/-- The indices below j that are not among the leads. -/
def Num.freeTo (leads : List Nat) (j : Nat) : List Nat := (List.range j).filter fun i => !leads.contains i
theorem Num.freeTo_yes {leads : List Nat} {j : Nat} (h : ¬ j ∈ leads) : Num.freeTo leads (j + 1) = Num.freeTo leads j ++ [j] := by
  unfold Num.freeTo
  rw [List.range_succ, List.filter_append]
  simp [h]
theorem Num.freeTo_no {leads : List Nat} {j : Nat} (h : j ∈ leads) : Num.freeTo leads (j + 1) = Num.freeTo leads j := by
  unfold Num.freeTo
  rw [List.range_succ, List.filter_append]
  simp [h]
theorem Num.freeTo_len (leads : List Nat) (j : Nat) : (Num.freeTo leads j).length ≤ j := by
  unfold Num.freeTo
  exact Nat.le_trans (List.length_filter_le _ _) (by simp)
theorem Num.pivs_mem (R : List (List Int)) (j : Nat) : (j : Int) ∈ Num.pivs R ↔ j ∈ R.map Num.lead := by
  unfold Num.pivs
  simp only [List.mem_map]
  constructor
  · rintro ⟨r, hr, e⟩; exact ⟨r, hr, by omega⟩
  · rintro ⟨r, hr, e⟩; exact ⟨r, hr, by omega⟩
/-- The numbers as integers. -/
def Num.ints (l : List Nat) : List Int := l.map fun (i : Nat) => (i : Int)
set_option maxRecDepth 100000 in
set_option maxHeartbeats 1000000 in
theorem columnsWithout_own (n : Nat) (v : Value) (R : List (List Int)) (w : World) (h : spI.rd w v (Num.pivs R)) (hl : R.length ≤ 8) (hn : n ≤ 8) :
    Calls Try.prog 107 #[.int .i64 (n : Int), v] w fun e w' => ∃ u, e = .returned u ∧ OwnN w' w.heap.size u (Num.ints (Num.freeTo (R.map Num.lead) n)) ∧ Below w.heap.size w w' := by
  obtain ⟨i0, hi, hz0, hz1, hz2⟩ := info_parts infoN
  obtain ⟨A, c, rfl, -, -⟩ := spI_form h
  have HR := Lib.hid h
  have pl := Num.pivs_length R
  have HPL := Lib.hid pl
  clear h pl
  go_enter Try.func107, Try.ntmps107
  go_wp2_with (fail)
  go_loopw [5, 8] (fun s5 s8 wr => ∃ j : Nat, s8 = .int .i64 j ∧ j ≤ n ∧ Hid (OwnN wr w.heap.size s5 (Num.ints (Num.freeTo (R.map Num.lead) j))) ∧ Below w.heap.size w wr) (fun _ s8 _ => n - (intOf s8).toNat)
  case atStart => exact ⟨0, rfl, by omega, Lib.hid (OwnN.nil _ _), Below.refl _ _⟩
  case round =>
    obtain ⟨j, rfl, hj, HO, bw⟩ := hrel
    by_cases hlt : j < n
    · have j0 : (0 : Int) ≤ (j : Int) := by omega
      have j1 : (j : Int) < (n : Int) := by omega
      have HC0 := contains_any _ (Num.pivs R) (j : Int) wr (spI.rd_below HR.out bw) (by rw [HPL.out]; omega)
      have bws := bw.size
      by_cases hm : j ∈ R.map Num.lead
      · rw [decide_eq_true ((Num.pivs_mem R j).2 hm)] at HC0
        have HC := Lib.hid HC0
        have ET := Lib.hid (Num.freeTo_no hm)
        clear HC0 hm
        generalize (Num.pivs R).length = pn at *
        go_wp2_with (fail)
        refine HC.out.mono ?_; rintro e w2 ⟨rfl, rfl⟩
        go_wp2_with (fail)
        exact ⟨⟨j + 1, by go_num, by omega, Lib.hid (by rw [ET.out]; exact HO.out), bw⟩, by simp [intOf]; omega⟩
      · rw [decide_eq_false (fun e => hm ((Num.pivs_mem R j).1 e))] at HC0
        have HC := Lib.hid HC0
        have ET := Lib.hid (Num.freeTo_yes hm)
        have xl : (Num.ints (Num.freeTo (R.map Num.lead) j)).length ≤ 8 := by have := Num.freeTo_len (R.map Num.lead) j; simp [Num.ints]; omega
        have HB := Lib.hid HO.out.base_le
        have HX : Hid (Num.ints (Num.freeTo (R.map Num.lead) (j + 1)) = Num.ints (Num.freeTo (R.map Num.lead) j) ++ [(j : Int)]) := Lib.hid (by rw [ET.out]; simp [Num.ints])
        clear HC0 hm ET
        generalize (Num.pivs R).length = pn at *
        generalize Num.ints (Num.freeTo (R.map Num.lead) j) = X at *
        go_wp2_with (fail)
        refine HC.out.mono ?_; rintro e w2 ⟨rfl, rfl⟩
        go_wp2_with (first | (at_builtin; refine wpList_append_own_at _ rfl (.tmp 15) (.tmp 17) 111 rfl w.heap.size 3 i0 (.int .i64 0) 1 8 Try.underlying111 hi hz0 hz1 hz2 rfl (by decide) _ _ _ rfl (HO.out.alloc _) ⟨_, 0, none⟩ 1 1 [.int .i64 (j : Int)] rfl rfl (cell_one_new _ _ _) (by simp [Value.oneCell']) (by unfold maxLen; omega) (by omega) (by simp; omega) ?_; intro v3 w3 own3 gr3 _ at3))
        exact ⟨⟨j + 1, by go_num, by omega, Lib.hid (by rw [HX.out]; exact OwnN.snoc own3), (bw.alloc (by omega) _).grown gr3 (by simp; omega) HB.out⟩, by simp [intOf]; omega⟩
    · obtain rfl : j = n := by omega
      have hge : ¬ ((j : Int) < (j : Int)) := by omega
      go_wp2_with (fail)
      go_ret
      exact ⟨_, rfl, HO.out, bw⟩
theorem columnsWithout_any (n : Nat) (v : Value) (R : List (List Int)) (w : World) (h : spI.rd w v (Num.pivs R)) (hl : R.length ≤ 8) (hn : n ≤ 8) :
    Calls Try.prog 107 #[.int .i64 (n : Int), v] w fun e w' => ∃ u, e = .returned u ∧ spI.rd w' u (Num.ints (Num.freeTo (R.map Num.lead) n)) ∧ Below w.heap.size w w' := by
  refine (columnsWithout_own n v R w h hl hn).mono ?_
  rintro e w' ⟨u, rfl, h1, h2⟩
  exact ⟨u, rfl, h1.rd, h2⟩
end Go.Proofs.Ytihdidbikeaafaa
