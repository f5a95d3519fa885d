/- The model's DeterminantOf and IsUnimodular. -/
import Derived.Test.YtihdidbikeaafaaL06E
import Derived.Test.YtihdidbikeaafaaL06F
namespace Go.Proofs.Ytihdidbikeaafaa
open Go.RowKit
set_option linter.unusedVariables false
set_option linter.unusedSimpArgs false

theorem sDet_tab {x : Tab} (hk : x.ok = true) (hn : (x.R.length : Int) = x.C) (v : Value) (w : World) (hv : spIIc.rd w v x.R) :
    Calls Try.prog 89 #[v] w fun e w' => e = .returned (.int .i64 (Num.detL x.R.length x.R)) ∧ Below w.heap.size w w' := by
  obtain ⟨h1, h2, h3, h4, h5⟩ := Tab.ok_out hk
  exact sDet_any x.R.length v x.R w (by omega) rfl h4 (fun i hi => by have := h5 i hi; omega) hv
theorem Tab.uni_no {x : Tab} (h : rDeterminantOf x = 0) : rIsUnimodular x = false := by
  unfold rIsUnimodular
  rw [h]; decide
set_option maxRecDepth 100000 in
set_option maxHeartbeats 1000000 in
theorem sIsUnimodular_any (v0 : Value) (x0 : Tab) (w : World) (h0 : rdTabC w v0 x0) : Calls Try.prog 53 #[v0] w (RetB (rIsUnimodular x0) w) := by
  obtain ⟨A0, n0, c0, rfl, r0⟩ := spTab_form (rdTabC_rd h0)
  obtain ⟨rfl, -, -, -⟩ := rdII_of r0
  obtain ⟨v2, e2, hc2⟩ := h0
  simp only [Value.agg.injEq, Array.mk.injEq, List.cons.injEq, and_true, true_and] at e2
  obtain rfl := e2
  have L : Below w.heap.size w (w.alloc (.cells [.int .i64 x0.C, .slice A0 x0.R.length c0].toArray 28)) := by go_grown
  have Ba : Blk (w.alloc (.cells [.int .i64 x0.C, .slice A0 x0.R.length c0].toArray 28)) w.heap.size [.int .i64 x0.C, .slice A0 x0.R.length c0] 28 := Blk.new w _ _
  have K0 : Hid (spTab.rd (w.alloc (.cells [.int .i64 x0.C, .slice A0 x0.R.length c0].toArray 28)) (.agg #[.int .i64 x0.C, .slice A0 x0.R.length c0]) x0) := Lib.hid (spTab.rd_below ⟨_, rfl, r0⟩ L)
  have R0 := Lib.hid (spIIc.rd_below hc2 L)
  clear r0 hc2
  cases hk : x0.ok with
  | false =>
    have HE := Lib.hid (Tab.uni_no (Tab.det_bad hk).1)
    have HC := Lib.hid (sIsTab_no _ x0 _ K0.out hk)
    obtain ⟨bl, a0, a1⟩ := Ba.c2
    clear hk
    go_enter Try.func53, Try.ntmps53
    go_wp2_with (fail)
    refine HC.out.mono ?_; rintro e w1 ⟨rfl, hb⟩
    replace L := bstep L L.size hb
    clear a0 a1 HC
    go_wp2_with (fail)
    go_ret
    exact ⟨ret_b HE.out.symm, L⟩
  | true =>
    have HC := Lib.hid (sIsTab_yes _ x0 _ K0.out hk)
    by_cases hn : (x0.R.length : Int) = x0.C
    · have HE := Lib.hid (Tab.det_good hk hn)
      have T1 : ((x0.R.length : Int) != x0.C) = false := by rw [hn]; simp
      have HM := Lib.hid (sDet_tab hk hn)
      have HR : Hid (rIsUnimodular x0 = decide (rDeterminantOf x0 = 1 ∨ rDeterminantOf x0 = -1)) := Lib.hid rfl
      rw [HE.out.1] at HR
      obtain ⟨bl, a0, a1⟩ := Ba.c2
      have HN := Lib.hid hn
      clear hk hn HE
      generalize Num.detL x0.R.length x0.R = r at *
      by_cases e1 : r = 1
      · subst e1
        have HR2 : Hid (rIsUnimodular x0 = true) := Lib.hid (by rw [HR.out]; decide)
        go_enter Try.func53, Try.ntmps53
        go_wp2_with (fail)
        refine HC.out.mono ?_; rintro e w1 ⟨rfl, hb⟩
        replace L := bstep L L.size hb
        replace Ba := Ba.below hb
        replace R0 := Lib.hid (spIIc.rd_below R0.out hb)
        clear a0 a1 bl HC hb
        obtain ⟨bl, a0, a1⟩ := Ba.c2
        go_wp2_with (fail)
        refine (HM.out _ _ R0.out).mono ?_; rintro e w4 ⟨rfl, hb⟩
        replace L := bstep L L.size hb
        clear HM hb
        go_wp2_with (fail)
        go_ret
        exact ⟨ret_b HR2.out.symm, L⟩
      · have t1 : (r == 1) = false := by simpa using e1
        by_cases e2 : r = -1
        · subst e2
          have HR2 : Hid (rIsUnimodular x0 = true) := Lib.hid (by rw [HR.out]; decide)
          clear e1
          go_enter Try.func53, Try.ntmps53
          go_wp2_with (fail)
          refine HC.out.mono ?_; rintro e w1 ⟨rfl, hb⟩
          replace L := bstep L L.size hb
          replace Ba := Ba.below hb
          replace R0 := Lib.hid (spIIc.rd_below R0.out hb)
          clear a0 a1 bl HC hb
          obtain ⟨bl, a0, a1⟩ := Ba.c2
          go_wp2_with (fail)
          refine (HM.out _ _ R0.out).mono ?_; rintro e w4 ⟨rfl, hb⟩
          replace L := bstep L L.size hb
          clear HM hb
          go_wp2_with (fail)
          go_ret
          exact ⟨ret_b HR2.out.symm, L⟩
        · have t2 : (r == -1) = false := by simpa using e2
          have HR2 : Hid (rIsUnimodular x0 = false) := Lib.hid (by rw [HR.out]; simp [e1, e2])
          clear e1 e2
          go_enter Try.func53, Try.ntmps53
          go_wp2_with (fail)
          refine HC.out.mono ?_; rintro e w1 ⟨rfl, hb⟩
          replace L := bstep L L.size hb
          replace Ba := Ba.below hb
          replace R0 := Lib.hid (spIIc.rd_below R0.out hb)
          clear a0 a1 bl HC hb
          obtain ⟨bl, a0, a1⟩ := Ba.c2
          go_wp2_with (fail)
          refine (HM.out _ _ R0.out).mono ?_; rintro e w4 ⟨rfl, hb⟩
          replace L := bstep L L.size hb
          clear HM hb
          go_wp2_with (fail)
          go_ret
          exact ⟨ret_b HR2.out.symm, L⟩
    · have HE := Lib.hid (Tab.uni_no (Tab.det_odd hk hn).1)
      have T1 : ((x0.R.length : Int) != x0.C) = true := by simpa using hn
      obtain ⟨bl, a0, a1⟩ := Ba.c2
      clear hk hn
      go_enter Try.func53, Try.ntmps53
      go_wp2_with (fail)
      refine HC.out.mono ?_; rintro e w1 ⟨rfl, hb⟩
      replace L := bstep L L.size hb
      replace Ba := Ba.below hb
      clear a0 a1 bl HC hb
      obtain ⟨bl, a0, a1⟩ := Ba.c2
      go_wp2_with (fail)
      go_ret
      exact ⟨ret_b HE.out.symm, L⟩
theorem sIsUnimodular_ok (v0 : Value) (x0 : Tab) (w : World) (h0 : rdTabC w v0 x0) (s0 : spTab.sz x0 ≤ 1048576) : Calls Try.prog 53 #[v0] w (RetB (rIsUnimodular x0) w) := sIsUnimodular_any v0 x0 w h0
end Go.Proofs.Ytihdidbikeaafaa
