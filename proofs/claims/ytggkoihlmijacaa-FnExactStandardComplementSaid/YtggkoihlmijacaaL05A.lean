/- The program's lists of indices: pivotsOf, slices.Contains, columnsWithout. -/
import Derived.Test.YtggkoihlmijacaaL02E
import Derived.Test.YtggkoihlmijacaaL02Q
import Derived.Test.YtggkoihlmijacaaKC
namespace Go.Proofs.Ytggkoihlmijacaa
open Go.RowKit
set_option linter.unusedVariables false
set_option linter.unusedSimpArgs false

theorem infoN : (Try.prog.info? 3).map (fun i => (i.zero, i.size, i.bytes)) = some (some (.int .i64 0), 1, 8) := by kernel_rfl
/-- A list of numbers of the type int in memory of the call's own. -/
def OwnN (w : World) (base : Nat) (v : Value) (xs : List Int) : Prop := w.ownsRow base 3 1 v xs.length (xs.map (Value.int .i64))
theorem OwnN.alloc {w : World} {base : Nat} {v : Value} {xs : List Int} (h : OwnN w base v xs) (o : Obj) : OwnN (w.alloc o) base v xs := World.ownsRow.alloc h o
theorem OwnN.snoc {w : World} {base : Nat} {v : Value} {xs : List Int} {x : Int} (h : w.ownsRow base 3 1 v (xs.length + 1) (xs.map (Value.int .i64) ++ [.int .i64 x])) : OwnN w base v (xs ++ [x]) := by
  unfold OwnN
  simpa using h
theorem OwnN.base_le {w : World} {base : Nat} {v : Value} {xs : List Int} (h : OwnN w base v xs) : ∀ k, v.ownBlock = some k → base ≤ k := fun k hk => (World.ownsRow.lt h k hk).1
theorem OwnN.nil (w : World) (base : Nat) : OwnN w base (.slice none 0 0) [] := World.ownsRow_nil _ _ _ _
theorem OwnN.rd {w : World} {base : Nat} {v : Value} {xs : List Int} (h : OwnN w base v xs) : spI.rd w v xs := by
  obtain ⟨A, cap, rfl, hm⟩ := ownsRow_cap h
  exact ⟨A, cap, rfl, hm, RdI.own h⟩
/-- The pivots of rows. -/
def Num.pivs (R : List (List Int)) : List Int := R.map fun r => (Num.lead r : Int)
theorem Num.pivs_length (R : List (List Int)) : (Num.pivs R).length = R.length := by simp [Num.pivs]
theorem Num.pivs_take {R : List (List Int)} {j : Nat} (h : j < R.length) : (Num.pivs R).take (j + 1) = (Num.pivs R).take j ++ [(Num.lead (R.getD j []) : Int)] := by
  unfold Num.pivs
  rw [List.take_succ_eq_append_getElem (by simpa using h)]
  simp [h]
set_option maxRecDepth 100000 in
set_option maxHeartbeats 1000000 in
theorem pivotsOf_any (v : Value) (x : Mat) (w : World) (h : spMat.rd w v x) (hok : x.ok = true) :
    Calls Try.prog 77 #[v] w fun e w' => ∃ u, e = .returned u ∧ spI.rd w' u (Num.pivs x.R) ∧ Below w.heap.size w w' := by
  obtain ⟨hgp, hp1, hp2, hC0, hC1, hR8, hV⟩ := Mat.ok_out hok
  obtain ⟨i0, hi, hz0, hz1, hz2⟩ := info_parts infoN
  obtain ⟨A0, n0, c0, rfl, r⟩ := spMat_form h
  obtain ⟨rfl, -, -, -⟩ := rdII_of r
  have b0 : Below w.heap.size w (w.alloc (.cells [.int .i64 x.P, .int .i64 x.C, .slice A0 x.R.length c0].toArray 27)) := by go_grown
  have B0 := Blk.new w [.int .i64 x.P, .int .i64 x.C, .slice A0 x.R.length c0] 27
  have HRO := Lib.hid (rowsOf_any _ x _ (spMat.rd_below h b0) hok)
  have HL : Hid (∀ j, j < x.R.length → (x.R.getD j []).length ≤ 8) := Lib.hid fun j hj => by rw [(hV j hj).len]; omega
  obtain ⟨d0, d1, d2, d3⟩ := B0.c3
  clear h r hV hok hgp
  go_enter Try.func77, Try.ntmps77
  go_wp2_with (fail)
  refine HRO.out.mono ?_; rintro e w1 ⟨u1, S1, rfl, ow1, hS1, hb1⟩
  have L1 := bstep b0 b0.size hb1
  have HR := Lib.hid ((spRR x.P).own_rd ow1)
  obtain ⟨A1, c1, rfl, -, -⟩ := (spRR x.P).own_rd ow1
  clear ow1 hS1 hb1 b0 B0 HRO d0 d1 d2 d3
  go_wp2_with (fail)
  go_loopw [3, 9] (fun s3 s9 wr => ∃ j : Nat, s9 = .int .i64 j ∧ j ≤ x.R.length ∧ Hid (OwnN wr w1.heap.size s3 ((Num.pivs x.R).take j)) ∧ Below w1.heap.size w1 wr) (fun _ s9 _ => x.R.length - (intOf s9).toNat)
  case atStart => exact ⟨0, rfl, by omega, Lib.hid (OwnN.nil _ _), Below.refl _ _⟩
  case round =>
    obtain ⟨j, rfl, hj, HO, bw⟩ := hrel
    by_cases hlt : j < x.R.length
    · obtain ⟨g, o, u, rfl, hg, hc, hru⟩ := spL_row ((spRR x.P).rd_below HR.out bw) hlt
      obtain ⟨Bu, cu, rfl, -⟩ := spR_form hru
      have j0 : (0 : Int) ≤ (j : Int) := by omega
      have j1 : (j : Int) < (x.R.length : Int) := by omega
      have HP := Lib.hid (pivotOf_any x.P _ (x.R.getD j []) wr hru (by have := HL.out j hlt; omega))
      have ET := Lib.hid (Num.pivs_take hlt)
      have xl : ((Num.pivs x.R).take j).length ≤ 8 := by rw [List.length_take]; omega
      have HB := Lib.hid HO.out.base_le
      have bws := bw.size
      clear hru
      generalize (Num.pivs x.R).take j = X at *
      generalize Num.lead (x.R.getD j []) = ld at *
      generalize (x.R.getD j []).length = ln at *
      go_wp2_with (fail)
      refine HP.out.mono ?_; rintro e w2 ⟨rfl, rfl⟩
      go_wp2_with (first | (at_builtin; refine wpList_append_own_at _ rfl (.tmp 13) (.tmp 16) 77 rfl w1.heap.size 3 i0 (.int .i64 0) 1 8 Try.underlying77 hi hz0 hz1 hz2 rfl (by decide) _ _ _ rfl (HO.out.alloc _) ⟨_, 0, none⟩ 1 1 [.int .i64 (ld : Int)] rfl rfl (cell_one_new _ _ _) (by simp [Value.oneCell']) (by unfold maxLen; omega) (by omega) (by simp; omega) ?_; intro v3 w3 own3 gr3 _ at3))
      exact ⟨⟨j + 1, by go_num, by omega, Lib.hid (by rw [ET.out]; exact OwnN.snoc own3), (bw.alloc (by omega) _).grown gr3 (by simp; omega) HB.out⟩, by simp [intOf]; omega⟩
    · obtain rfl : j = x.R.length := by omega
      have hge : ¬ ((x.R.length : Int) < (x.R.length : Int)) := by omega
      have HE : Hid ((Num.pivs x.R).take x.R.length = Num.pivs x.R) := Lib.hid (List.take_of_length_le (by rw [Num.pivs_length]; omega))
      rw [HE.out] at HO
      go_wp2_with (fail)
      go_ret
      exact ⟨_, rfl, HO.out.rd, bstep L1 L1.size bw⟩
/-- slices.Index over numbers: -1 where there is none. -/
theorem index_any (v : Value) (xs : List Int) (y : Int) (w : World) (h : spI.rd w v xs) (hl : xs.length ≤ 1000) :
    Calls Try.prog 118 #[v, .int .i64 y] w fun e w' => ∃ i : Int, e = .returned (.int .i64 i) ∧ (0 ≤ i ↔ y ∈ xs) ∧ w = w' := by
  obtain ⟨A, c, rfl, -, -⟩ := spI_form h
  have HR := Lib.hid h
  clear h
  go_enter Try.func118, Try.ntmps118
  go_wp2_with (fail)
  go_loop [8] (fun s => ∃ j : Nat, s = .int .i64 j ∧ j ≤ xs.length ∧ Hid (∀ i, i < j → xs.getD i 0 ≠ y)) (fun s => xs.length - (intOf s).toNat)
  case atStart => exact ⟨0, rfl, by omega, Lib.hid fun i hi => by omega⟩
  case round =>
    obtain ⟨j, rfl, hj, hz⟩ := hrel
    by_cases hlt : j < xs.length
    · obtain ⟨g, o, rfl, hg, hc⟩ := spI_at HR.out hlt
      have i0 : (0 : Int) ≤ (j : Int) := by omega
      have i1 : (j : Int) < (xs.length : Int) := by omega
      by_cases hy : xs.getD j 0 = y
      · have HM : Hid (y ∈ xs) := Lib.hid (by rw [← hy]; exact Num.mem_getD 0 hlt)
        rw [hy] at hc
        clear hy
        go_wp2_with (fail)
        go_ret
        exact ⟨_, rfl, ⟨fun _ => HM.out, fun _ => by omega⟩, rfl⟩
      · have HZ : Hid (∀ i, i < j + 1 → xs.getD i 0 ≠ y) := Lib.hid fun i hi => by
          by_cases e : i = j
          · rw [e]; exact hy
          · exact hz.out i (by omega)
        have tE : (y == xs.getD j 0) = false := by simpa using fun e => hy e.symm
        clear hy
        generalize xs.getD j 0 = q at *
        go_wp2_with (fail)
        exact ⟨⟨j + 1, by go_num, by omega, HZ⟩, by simp [intOf]; omega⟩
    · obtain rfl : j = xs.length := by omega
      have hge : ¬ ((xs.length : Int) < (xs.length : Int)) := by omega
      have HM : Hid (¬ y ∈ xs) := Lib.hid fun h => by
        obtain ⟨i, hi, e⟩ := List.getElem_of_mem h
        exact hz.out i hi (by simp [List.getD_eq_getElem?_getD, hi, e])
      go_wp2_with (fail)
      go_ret
      exact ⟨-1, rfl, ⟨fun h => absurd h (by decide), fun h => absurd h HM.out⟩, rfl⟩
theorem contains_any (v : Value) (xs : List Int) (y : Int) (w : World) (h : spI.rd w v xs) (hl : xs.length ≤ 1000) :
    Calls Try.prog 112 #[v, .int .i64 y] w fun e w' => e = .returned (.bool (decide (y ∈ xs))) ∧ w = w' := by
  obtain ⟨A, c, rfl, -, -⟩ := spI_form h
  have HC := Lib.hid (index_any _ xs y w h hl)
  clear h
  go_enter Try.func112, Try.ntmps112
  go_wp2_with (fail)
  refine HC.out.mono ?_; rintro e w' ⟨i, rfl, hi, rfl⟩
  by_cases hm : y ∈ xs
  · have i0 : (0 : Int) ≤ i := hi.2 hm
    have HM := Lib.hid hm
    clear hi hm
    go_wp2_with (fail)
    go_ret
    exact ⟨by rw [decide_eq_true HM.out]; rfl, rfl⟩
  · have i0 : ¬ (0 : Int) ≤ i := fun e => hm (hi.1 e)
    have HM := Lib.hid hm
    clear hi hm
    go_wp2_with (fail)
    go_ret
    exact ⟨by rw [decide_eq_false HM.out]; show Ending.returned (.bool (decide (0 ≤ i))) = _; rw [decide_eq_false (by omega)], rfl⟩
/-- The indices below j that are not among the leads. -/
def Num.freeTo (leads : List Nat) (j : Nat) : List Nat := (List.range j).filter fun i => !leads.contains i
theorem Num.freeTo_yes {leads : List Nat} {j : Nat} (h : ¬ j ∈ leads) : Num.freeTo leads (j + 1) = Num.freeTo leads j ++ [j] := by
  unfold Num.freeTo
  rw [List.range_succ, List.filter_append]
  simp [h]
theorem Num.freeTo_no {leads : List Nat} {j : Nat} (h : j ∈ leads) : Num.freeTo leads (j + 1) = Num.freeTo leads j := by
  unfold Num.freeTo
  rw [List.range_succ, List.filter_append]
  simp [h]
theorem Num.freeTo_len (leads : List Nat) (j : Nat) : (Num.freeTo leads j).length ≤ j := by
  unfold Num.freeTo
  exact Nat.le_trans (List.length_filter_le _ _) (by simp)
theorem Num.pivs_mem (R : List (List Int)) (j : Nat) : (j : Int) ∈ Num.pivs R ↔ j ∈ R.map Num.lead := by
  unfold Num.pivs
  simp only [List.mem_map]
  constructor
  · rintro ⟨r, hr, e⟩; exact ⟨r, hr, by omega⟩
  · rintro ⟨r, hr, e⟩; exact ⟨r, hr, by omega⟩
/-- The numbers as integers. -/
def Num.ints (l : List Nat) : List Int := l.map fun (i : Nat) => (i : Int)
set_option maxRecDepth 100000 in
set_option maxHeartbeats 1000000 in
theorem columnsWithout_any (n : Nat) (v : Value) (R : List (List Int)) (w : World) (h : spI.rd w v (Num.pivs R)) (hl : R.length ≤ 8) (hn : n ≤ 8) :
    Calls Try.prog 76 #[.int .i64 (n : Int), v] w fun e w' => ∃ u, e = .returned u ∧ spI.rd w' u (Num.ints (Num.freeTo (R.map Num.lead) n)) ∧ Below w.heap.size w w' := by
  obtain ⟨i0, hi, hz0, hz1, hz2⟩ := info_parts infoN
  obtain ⟨A, c, rfl, -, -⟩ := spI_form h
  have HR := Lib.hid h
  have pl := Num.pivs_length R
  have HPL := Lib.hid pl
  clear h pl
  go_enter Try.func76, Try.ntmps76
  go_wp2_with (fail)
  go_loopw [5, 8] (fun s5 s8 wr => ∃ j : Nat, s8 = .int .i64 j ∧ j ≤ n ∧ Hid (OwnN wr w.heap.size s5 (Num.ints (Num.freeTo (R.map Num.lead) j))) ∧ Below w.heap.size w wr) (fun _ s8 _ => n - (intOf s8).toNat)
  case atStart => exact ⟨0, rfl, by omega, Lib.hid (OwnN.nil _ _), Below.refl _ _⟩
  case round =>
    obtain ⟨j, rfl, hj, HO, bw⟩ := hrel
    by_cases hlt : j < n
    · have j0 : (0 : Int) ≤ (j : Int) := by omega
      have j1 : (j : Int) < (n : Int) := by omega
      have HC0 := contains_any _ (Num.pivs R) (j : Int) wr (spI.rd_below HR.out bw) (by rw [HPL.out]; omega)
      have bws := bw.size
      by_cases hm : j ∈ R.map Num.lead
      · rw [decide_eq_true ((Num.pivs_mem R j).2 hm)] at HC0
        have HC := Lib.hid HC0
        have ET := Lib.hid (Num.freeTo_no hm)
        clear HC0 hm
        generalize (Num.pivs R).length = pn at *
        go_wp2_with (fail)
        refine HC.out.mono ?_; rintro e w2 ⟨rfl, rfl⟩
        go_wp2_with (fail)
        exact ⟨⟨j + 1, by go_num, by omega, Lib.hid (by rw [ET.out]; exact HO.out), bw⟩, by simp [intOf]; omega⟩
      · rw [decide_eq_false (fun e => hm ((Num.pivs_mem R j).1 e))] at HC0
        have HC := Lib.hid HC0
        have ET := Lib.hid (Num.freeTo_yes hm)
        have xl : (Num.ints (Num.freeTo (R.map Num.lead) j)).length ≤ 8 := by have := Num.freeTo_len (R.map Num.lead) j; simp [Num.ints]; omega
        have HB := Lib.hid HO.out.base_le
        have HX : Hid (Num.ints (Num.freeTo (R.map Num.lead) (j + 1)) = Num.ints (Num.freeTo (R.map Num.lead) j) ++ [(j : Int)]) := Lib.hid (by rw [ET.out]; simp [Num.ints])
        clear HC0 hm ET
        generalize (Num.pivs R).length = pn at *
        generalize Num.ints (Num.freeTo (R.map Num.lead) j) = X at *
        go_wp2_with (fail)
        refine HC.out.mono ?_; rintro e w2 ⟨rfl, rfl⟩
        go_wp2_with (first | (at_builtin; refine wpList_append_own_at _ rfl (.tmp 15) (.tmp 17) 77 rfl w.heap.size 3 i0 (.int .i64 0) 1 8 Try.underlying77 hi hz0 hz1 hz2 rfl (by decide) _ _ _ rfl (HO.out.alloc _) ⟨_, 0, none⟩ 1 1 [.int .i64 (j : Int)] rfl rfl (cell_one_new _ _ _) (by simp [Value.oneCell']) (by unfold maxLen; omega) (by omega) (by simp; omega) ?_; intro v3 w3 own3 gr3 _ at3))
        exact ⟨⟨j + 1, by go_num, by omega, Lib.hid (by rw [HX.out]; exact OwnN.snoc own3), (bw.alloc (by omega) _).grown gr3 (by simp; omega) HB.out⟩, by simp [intOf]; omega⟩
    · obtain rfl : j = n := by omega
      have hge : ¬ ((j : Int) < (j : Int)) := by omega
      go_wp2_with (fail)
      go_ret
      exact ⟨_, rfl, HO.out.rd, bw⟩
end Go.Proofs.Ytggkoihlmijacaa
