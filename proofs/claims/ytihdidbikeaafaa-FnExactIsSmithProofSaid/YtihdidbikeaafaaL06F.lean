/- The program's DeterminantOf and IsUnimodular. -/
import Derived.Test.YtihdidbikeaafaaL06D
namespace Go.Proofs.Ytihdidbikeaafaa
open Go.RowKit
set_option linter.unusedVariables false
set_option linter.unusedSimpArgs false

/-- DeterminantOf: the result and the code. -/
def Tab.square (x : Tab) : Bool := x.ok && decide ((x.R.length : Int) = x.C)
def rDeterminantOf (x : Tab) : Int := if x.square = true then Num.detL x.R.length x.R else 0
def cDeterminantOf (x : Tab) : Int := if x.ok = true then (if (x.R.length : Int) = x.C then 0 else 5) else 1
theorem Tab.ok_out {x : Tab} (h : x.ok = true) : 1 ≤ x.C ∧ x.C ≤ 4 ∧ x.R.length ≤ 12 ∧ Num.Small x.R ∧ ∀ i, i < x.R.length → ((x.R.getD i []).length : Int) = x.C := by
  obtain ⟨h1, h2, h3, h4⟩ := Num.tabB_out h
  exact ⟨h1, h2, h3, Num.tabB_small h, fun i hi => (Num.rowT_out (h4 i hi)).1⟩
theorem Tab.det_bad {x : Tab} (h : x.ok = false) : rDeterminantOf x = 0 ∧ cDeterminantOf x = 1 := by
  unfold rDeterminantOf cDeterminantOf Tab.square
  simp [h]
theorem Tab.det_odd {x : Tab} (h : x.ok = true) (h' : ¬ (x.R.length : Int) = x.C) : rDeterminantOf x = 0 ∧ cDeterminantOf x = 5 := by
  unfold rDeterminantOf cDeterminantOf Tab.square
  simp [h, h']
theorem Tab.det_good {x : Tab} (h : x.ok = true) (h' : (x.R.length : Int) = x.C) : rDeterminantOf x = Num.detL x.R.length x.R ∧ cDeterminantOf x = 0 := by
  unfold rDeterminantOf cDeterminantOf Tab.square
  rw [h, decide_eq_true h', if_pos h']
  exact ⟨rfl, rfl⟩
theorem Tab.det_pick {x : Tab} (h : x.ok = true) (h' : (x.R.length : Int) = x.C) : Num.detL x.R.length (Num.pick x.R (List.range x.R.length)) = Num.detL x.R.length x.R := by
  rw [Num.pick_all]
  intro r hr
  obtain ⟨i, hi, rfl⟩ := List.mem_iff_getElem.mp hr
  have := (Tab.ok_out h).2.2.2.2 i hi
  rw [show x.R.getD i [] = x.R[i] by simp [hi]] at this
  omega
theorem Num.freeTo_nil (n : Nat) : Num.freeTo [] n = List.range n := by
  unfold Num.freeTo
  simp
theorem copyOf_cap (v : Value) (x : Tab) (w : World) (h : spTab.rd w v x) (hk : x.ok = true) : Calls Try.prog 60 #[v] w fun e w' => ∃ u, e = .returned u ∧ spZZ.rd w' u x.R ∧ CapOk u ∧ Below w.heap.size w w' := by
  obtain ⟨h1, h2, h3, h4, h5⟩ := Tab.ok_out hk
  refine (copyOf_any v x w h (by omega) (fun j hj => by have := h5 j hj; omega)).mono ?_
  rintro e w' ⟨u, S, rfl, ow, hS, hb⟩
  exact ⟨u, rfl, spZZ.own_rd ow, (by obtain ⟨vs, T, o1, _⟩ := ow; exact capOk_own o1), hb⟩
theorem colsAll_any (n : Nat) (w : World) (hn : n ≤ 8) : Calls Try.prog 107 #[.int .i64 (n : Int), .slice none 0 0] w fun e w' => ∃ u, e = .returned u ∧ spI.rd w' u (Num.ints (List.range n)) ∧ CapOk u ∧ Below w.heap.size w w' := by
  have := columnsWithout_own n (.slice none 0 0) [] w ⟨none, 0, rfl, by decide, fun j hj => by simp [Num.pivs] at hj⟩ (by simp) hn
  rw [show ([] : List (List Int)).map Num.lead = [] from rfl, Num.freeTo_nil] at this
  refine this.mono ?_
  rintro e w' ⟨u, rfl, h1, h2⟩
  exact ⟨u, rfl, h1.rd, capOk_own h1, h2⟩
set_option maxRecDepth 100000 in
set_option maxHeartbeats 1000000 in
theorem iDeterminantOf_any (v0 : Value) (x0 : Tab) (w : World) (h0 : spTab.rd w v0 x0) : Calls Try.prog 92 #[v0] w (RetI (rDeterminantOf x0) (cDeterminantOf x0) w) := by
  obtain ⟨A0, n0, c0, rfl, r0⟩ := spTab_form h0
  obtain ⟨rfl, -, -, -⟩ := rdII_of r0
  have L : Below w.heap.size w (w.alloc (.cells [.int .i64 x0.C, .slice A0 x0.R.length c0].toArray 28)) := by go_grown
  have Ba : Blk (w.alloc (.cells [.int .i64 x0.C, .slice A0 x0.R.length c0].toArray 28)) w.heap.size [.int .i64 x0.C, .slice A0 x0.R.length c0] 28 := Blk.new w _ _
  have K0 := Lib.hid (spTab.rd_below h0 L)
  clear h0 r0
  cases hk : x0.ok with
  | false =>
    have HE := Lib.hid (Tab.det_bad hk)
    have HC := Lib.hid (isTab_no _ x0 _ K0.out hk)
    obtain ⟨bl, a0, a1⟩ := Ba.c2
    clear hk
    go_enter Try.func92, Try.ntmps92
    go_wp2_with (fail)
    refine HC.out.mono ?_; rintro e w1 ⟨rfl, hb⟩
    replace L := bstep L L.size hb
    clear a0 a1 HC
    go_wp2_with (fail)
    refine bodyPost_ret (v := .tuple #[.int .i64 0, .int .i64 1]) (by simp [results, Try.results92, go_sem]) rfl ?_
    rw [HE.out.1, HE.out.2]
    exact ⟨rfl, L⟩
  | true =>
    have HC := Lib.hid (isTab_yes _ x0 _ K0.out hk)
    obtain ⟨h1, h2, h3, h4, h5⟩ := Tab.ok_out hk
    by_cases hn : (x0.R.length : Int) = x0.C
    · have HE := Lib.hid (Tab.det_good hk hn)
      have HP := Lib.hid (Tab.det_pick hk hn)
      have T1 : ((x0.R.length : Int) != x0.C) = false := by rw [hn]; simp
      have HCP : Hid (∀ W v, spTab.rd W v x0 → Calls Try.prog 60 #[v] W fun e w' => ∃ u, e = .returned u ∧ spZZ.rd w' u x0.R ∧ CapOk u ∧ Below W.heap.size W w') := Lib.hid fun W v hv => copyOf_cap v x0 W hv hk
      have HCA : Hid (∀ W, Calls Try.prog 107 #[.int .i64 (x0.R.length : Int), .slice none 0 0] W fun e w' => ∃ u, e = .returned u ∧ spI.rd w' u (Num.ints (List.range x0.R.length)) ∧ CapOk u ∧ Below W.heap.size W w') := Lib.hid fun W => colsAll_any _ W (by omega)
      have HM : Hid (∀ W v u, spZZ.rd W v x0.R → spI.rd W u (Num.ints (List.range x0.R.length)) → CapOk v → CapOk u → Calls Try.prog 108 #[v, u] W fun e w' => e = .returned (.int .i64 (Num.detL x0.R.length x0.R)) ∧ Below W.heap.size W w') := Lib.hid fun W v u hv hu cv cu => by
        have := minorOf_any x0.R.length v u x0.R (List.range x0.R.length) W (by omega) rfl (by simp) h4 (fun i hi c hc => by have := h5 i hi; simp at hc; omega) hv hu cv cu
        rwa [Tab.det_pick hk hn] at this
      obtain ⟨bl, a0, a1⟩ := Ba.c2
      have HN := Lib.hid hn
      clear hk hn h1 h2 h3 h4 h5
      generalize Num.detL x0.R.length x0.R = DET at *
      go_enter Try.func92, Try.ntmps92
      go_wp2_with (fail)
      refine HC.out.mono ?_; rintro e w1 ⟨rfl, hb⟩
      replace L := bstep L L.size hb
      replace Ba := Ba.below hb
      replace K0 := Lib.hid (spTab.rd_below K0.out hb)
      clear a0 a1 bl HC hb
      obtain ⟨bl, a0, a1⟩ := Ba.c2
      go_wp2_with (fail)
      refine (HCA.out _).mono ?_; rintro e w2 ⟨u2, rfl, ru2, cu2, hb⟩
      replace L := bstep L L.size hb
      replace Ba := Ba.below hb
      replace K0 := Lib.hid (spTab.rd_below K0.out hb)
      have HU := Lib.hid ru2
      have HU2 := Lib.hid cu2
      clear a0 a1 bl HCA hb ru2 cu2
      obtain ⟨bl, a0, a1⟩ := Ba.c2
      go_wp2_with (fail)
      refine (HCP.out _ _ K0.out).mono ?_; rintro e w3 ⟨u3, rfl, ru3, cu3, hb⟩
      replace L := bstep L L.size hb
      have HM3 := Lib.hid (HM.out _ _ _ ru3 (spI.rd_below HU.out hb) cu3 HU2.out)
      clear a0 a1 bl HCP hb ru3 cu3 HU HU2 Ba K0 HM
      go_wp2_with (fail)
      refine HM3.out.mono ?_; rintro e w4 ⟨rfl, hb⟩
      replace L := bstep L L.size hb
      clear HM3 hb
      go_wp2_with (fail)
      refine bodyPost_ret (v := .tuple #[.int .i64 DET, .int .i64 0]) (by simp [results, Try.results92, go_sem]) rfl ?_
      rw [HE.out.1, HE.out.2]
      exact ⟨rfl, L⟩
    · have HE := Lib.hid (Tab.det_odd hk hn)
      have T1 : ((x0.R.length : Int) != x0.C) = true := by simpa using hn
      obtain ⟨bl, a0, a1⟩ := Ba.c2
      clear hk hn h1 h2 h3 h4 h5
      go_enter Try.func92, Try.ntmps92
      go_wp2_with (fail)
      refine HC.out.mono ?_; rintro e w1 ⟨rfl, hb⟩
      replace L := bstep L L.size hb
      replace Ba := Ba.below hb
      clear a0 a1 bl HC hb
      obtain ⟨bl, a0, a1⟩ := Ba.c2
      go_wp2_with (fail)
      refine bodyPost_ret (v := .tuple #[.int .i64 0, .int .i64 5]) (by simp [results, Try.results92, go_sem]) rfl ?_
      rw [HE.out.1, HE.out.2]
      exact ⟨rfl, L⟩
theorem iDeterminantOf_ok (v0 : Value) (x0 : Tab) (w : World) (h0 : spTab.rd w v0 x0) (s0 : spTab.sz x0 ≤ 1048576) : Calls Try.prog 92 #[v0] w (RetI (rDeterminantOf x0) (cDeterminantOf x0) w) := iDeterminantOf_any v0 x0 w h0
/-- IsUnimodular. -/
def rIsUnimodular (x : Tab) : Bool := decide (rDeterminantOf x = 1 ∨ rDeterminantOf x = -1)
set_option maxRecDepth 100000 in
set_option maxHeartbeats 1000000 in
theorem iIsUnimodular_any (v0 : Value) (x0 : Tab) (w : World) (h0 : spTab.rd w v0 x0) : Calls Try.prog 57 #[v0] w (RetB (rIsUnimodular x0) w) := by
  obtain ⟨A0, n0, c0, rfl, r0⟩ := spTab_form h0
  have HD := Lib.hid (fun W (hW : spTab.rd W (.agg #[.int .i64 x0.C, .slice A0 n0 c0]) x0) => iDeterminantOf_any _ x0 W hW)
  have L : Below w.heap.size w (w.alloc (.cells [.int .i64 x0.C, .slice A0 n0 c0].toArray 28)) := by go_grown
  have Ba : Blk (w.alloc (.cells [.int .i64 x0.C, .slice A0 n0 c0].toArray 28)) w.heap.size [.int .i64 x0.C, .slice A0 n0 c0] 28 := Blk.new w _ _
  have K0 := Lib.hid (spTab.rd_below h0 L)
  have HR : Hid (rIsUnimodular x0 = decide (rDeterminantOf x0 = 1 ∨ rDeterminantOf x0 = -1)) := Lib.hid rfl
  obtain ⟨bl, a0, a1⟩ := Ba.c2
  clear h0 r0
  generalize rDeterminantOf x0 = r at *
  generalize cDeterminantOf x0 = cc at *
  by_cases e1 : r = 1
  · subst e1
    have HR2 : Hid (rIsUnimodular x0 = true) := Lib.hid (by rw [HR.out]; decide)
    go_enter Try.func57, Try.ntmps57
    go_wp2_with (fail)
    refine (HD.out _ K0.out).mono ?_; rintro e w1 ⟨rfl, hb⟩
    replace L := bstep L L.size hb
    clear a0 a1 bl hb
    go_wp2_with (fail)
    go_ret
    exact ⟨ret_b HR2.out.symm, L⟩
  · by_cases e2 : r = -1
    · subst e2
      have HR2 : Hid (rIsUnimodular x0 = true) := Lib.hid (by rw [HR.out]; decide)
      go_enter Try.func57, Try.ntmps57
      go_wp2_with (fail)
      refine (HD.out _ K0.out).mono ?_; rintro e w1 ⟨rfl, hb⟩
      replace L := bstep L L.size hb
      clear a0 a1 bl hb
      go_wp2_with (fail)
      go_ret
      exact ⟨ret_b HR2.out.symm, L⟩
    · have HR2 : Hid (rIsUnimodular x0 = false) := Lib.hid (by rw [HR.out]; simp [e1, e2])
      have t1 : (r == 1) = false := by simpa using e1
      have t2 : (r == -1) = false := by simpa using e2
      go_enter Try.func57, Try.ntmps57
      go_wp2_with (fail)
      refine (HD.out _ K0.out).mono ?_; rintro e w1 ⟨rfl, hb⟩
      replace L := bstep L L.size hb
      clear a0 a1 bl hb e1 e2
      go_wp2_with (fail)
      go_ret
      exact ⟨ret_b HR2.out.symm, L⟩
theorem iIsUnimodular_ok (v0 : Value) (x0 : Tab) (w : World) (h0 : spTab.rd w v0 x0) (s0 : spTab.sz x0 ≤ 1048576) : Calls Try.prog 57 #[v0] w (RetB (rIsUnimodular x0) w) := iIsUnimodular_any v0 x0 w h0
end Go.Proofs.Ytihdidbikeaafaa
