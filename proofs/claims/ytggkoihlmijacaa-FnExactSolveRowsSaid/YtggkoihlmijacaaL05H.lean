/- The model's SolveRows. -/
import Derived.Test.YtggkoihlmijacaaL05G
import Derived.Test.YtggkoihlmijacaaL05F
namespace Go.Proofs.Ytggkoihlmijacaa
open Go.RowKit
set_option linter.unusedVariables false
set_option linter.unusedSimpArgs false

theorem sSolve_at (p C' : Int) (rv bv : Value) (rows : List (List Int)) (b : List Int) (C : Nat) (w : World) (hr : spII.rd w rv rows) (hb : spI.rd w bv b) (hgp : Num.gp p = true) (hrv : ∀ i, i < rows.length → Num.Vec p C (rows.getD i [])) (vb : Num.Vec p C b) (hC : C ≤ 100) (hrl : rows.length ≤ 100) (e : C' = (C : Int)) :
    Calls Try.prog 81 #[.int .i64 p, rv, .int .i64 C', bv] w (SolvePost p rows b w) := by
  subst e
  exact sSolve_any p rv bv rows b C w hr hb hgp hrv vb hC hrl
set_option maxRecDepth 100000 in
set_option maxHeartbeats 3000000 in
theorem sSolveRows_ok (v0 : Value) (x0 : Mat) (v1 : Value) (x1 : List Int) (w : World) (h0 : spMat.rd w v0 x0) (h1 : spI.rd w v1 x1) (s0 : spMat.sz x0 ≤ 1048576) (s1 : spI.sz x1 ≤ 1048576) : Calls Try.prog 36 #[v0, v1] w (MadeC spI (rSolveRows x0 x1) (cSolveRows x0 x1) w) := by
  obtain ⟨A0, n0, c0, rfl, r0⟩ := spMat_form h0
  obtain ⟨rfl, -, -, -⟩ := rdII_of r0
  obtain ⟨A1, c1, rfl, m1, r1⟩ := spI_form h1
  have m1' := m1
  unfold maxLen at m1'
  have L : Below w.heap.size w (w.alloc (.cells [.int .i64 x0.P, .int .i64 x0.C, .slice A0 x0.R.length c0].toArray 27)) := by go_grown
  have Ba0 : Blk (w.alloc (.cells [.int .i64 x0.P, .int .i64 x0.C, .slice A0 x0.R.length c0].toArray 27)) w.heap.size [.int .i64 x0.P, .int .i64 x0.C, .slice A0 x0.R.length c0] 27 := by have := Blk.new w [.int .i64 x0.P, .int .i64 x0.C, .slice A0 x0.R.length c0] 27; simpa only [World.size_alloc] using this
  have K0 := Lib.hid (spMat.rd_below h0 L)
  have R0 := Lib.hid (spII.rd_below r0 L)
  clear h0 r0
  have K1 := Lib.hid (spI.rd_below h1 L)
  clear h1 r1
  cases hk0 : x0.ok with
  | false =>
    have HEC : Hid (cSolveRows x0 x1 = 1) := Lib.hid (by unfold cSolveRows; simp [hk0])
    have HER : Hid (rSolveRows x0 x1 = []) := Lib.hid (by unfold rSolveRows; rw [HEC.out]; rfl)
    have HC := Lib.hid (sIsMat_no _ x0 _ K0.out hk0)
    clear hk0
    go_enter Try.func36, Try.ntmps36
    go_wp2_with (fail)
    refine (HC.out).mono ?_; rintro e w1 ⟨rfl, hb⟩
    replace L := bstep L L.size hb
    replace Ba0 := Ba0.below hb
    replace K0 := Lib.hid (spMat.rd_below K0.out hb)
    replace R0 := Lib.hid (spII.rd_below R0.out hb)
    replace K1 := Lib.hid (spI.rd_below K1.out hb)
    clear hb
    obtain ⟨bla0, qa00, qa01, qa02⟩ := Ba0.c3
    go_wp2_with (fail)
    refine bodyPost_ret (v := .tuple #[.slice none 0 0, .int .i64 1]) (by simp [results, Try.results36, go_sem]) rfl ?_
    rw [HER.out, HEC.out]
    exact madeNil rfl L
  | true =>
    have HC := Lib.hid (sIsMat_yes _ x0 _ K0.out hk0)
    obtain ⟨h1, h2, h3, h4, h5, h6, h7⟩ := Mat.ok_out hk0
    have HV : Hid (∀ W, spI.rd W (.slice A1 x1.length c1) x1 → Calls Try.prog 53 #[.int .i64 x0.P, .int .i64 x0.C, .slice A1 x1.length c1] W fun e w' => e = .returned (.bool (Num.vecB x0.P x0.C x1)) ∧ W = w') := Lib.hid fun W hW => (by
        obtain ⟨A', c', e, hm, hr⟩ := hW
        simp only [Value.slice.injEq] at e
        obtain ⟨rfl, -, rfl⟩ := e
        exact sVec_any x0.P x0.C A1 c1 x1 W hr hm h2 h3)
    cases hv : Num.vecB x0.P x0.C x1 with
    | false =>
      have HEC : Hid (cSolveRows x0 x1 = 1) := Lib.hid (by unfold cSolveRows; simp [hv])
      have HER : Hid (rSolveRows x0 x1 = []) := Lib.hid (by unfold rSolveRows; rw [HEC.out]; rfl)
      clear h1 h2 h3 h4 h5 h6 h7 hk0
      rw [hv] at HV
      clear hv
      go_enter Try.func36, Try.ntmps36
      go_wp2_with (fail)
      refine (HC.out).mono ?_; rintro e w1 ⟨rfl, hb⟩
      replace L := bstep L L.size hb
      replace Ba0 := Ba0.below hb
      replace K0 := Lib.hid (spMat.rd_below K0.out hb)
      replace R0 := Lib.hid (spII.rd_below R0.out hb)
      replace K1 := Lib.hid (spI.rd_below K1.out hb)
      clear hb
      obtain ⟨bla0, qa00, qa01, qa02⟩ := Ba0.c3
      go_wp2_with (fail)
      refine (HV.out _ K1.out).mono ?_; rintro e w2 ⟨rfl, rfl⟩
      clear bla0 qa00 qa01 qa02
      go_wp2_with (fail)
      refine bodyPost_ret (v := .tuple #[.slice none 0 0, .int .i64 1]) (by simp [results, Try.results36, go_sem]) rfl ?_
      rw [HER.out, HEC.out]
      exact madeNil rfl L
    | true =>
      have vv : Num.Vec x0.P x0.C.toNat x1 := Num.vec_of (show 0 < x0.P by omega) (by rw [show ((x0.C.toNat : Nat) : Int) = x0.C by omega]; exact hv)
      have vl := vv.len
      obtain ⟨-, RV, -, hsv⟩ := Num.solve_parts h1 h7 vv
      have HLS : Hid ((Num.solveV x0.P x0.R x1).length ≤ 1000) := Lib.hid (by unfold Num.solveV; rw [Num.scaleV_length, List.length_drop, RV.len]; omega)
      have H1 : Hid (∀ W u v, spII.rd W u x0.R → spI.rd W v x1 → Calls Try.prog 81 #[.int .i64 x0.P, u, .int .i64 x0.C, v] W (SolvePost x0.P x0.R x1 W)) := Lib.hid fun W u v hu hw => sSolve_at x0.P x0.C u v x0.R x1 x0.C.toNat W hu hw h1 h7 vv (by omega) (by omega) (by omega)
      have HE4 : Hid (Num.lead (Num.restV x0.P x0.R x1) < x1.length → cSolveRows x0 x1 = 4 ∧ rSolveRows x0 x1 = []) := Lib.hid fun hc => by
        have e : cSolveRows x0 x1 = 4 := by unfold cSolveRows; simp [hk0, hv, hc]
        exact ⟨e, by unfold rSolveRows; rw [e]; rfl⟩
      have HE0 : Hid (¬ Num.lead (Num.restV x0.P x0.R x1) < x1.length → cSolveRows x0 x1 = 0 ∧ rSolveRows x0 x1 = Num.solveV x0.P x0.R x1) := Lib.hid fun hc => by
        have e : cSolveRows x0 x1 = 0 := by unfold cSolveRows; simp [hk0, hv, hc]
        exact ⟨e, by unfold rSolveRows; rw [e]; rfl⟩
      rw [hv] at HV
      clear hk0 h1 h2 h3 h4 h5 h6 h7 vv vl RV hsv hv
      unfold SolvePost at H1
      generalize Num.lead (Num.restV x0.P x0.R x1) = ld at *
      generalize Num.solveV x0.P x0.R x1 = sv at *
      go_enter Try.func36, Try.ntmps36
      go_wp2_with (fail)
      refine (HC.out).mono ?_; rintro e w1 ⟨rfl, hb⟩
      replace L := bstep L L.size hb
      replace Ba0 := Ba0.below hb
      replace K0 := Lib.hid (spMat.rd_below K0.out hb)
      replace R0 := Lib.hid (spII.rd_below R0.out hb)
      replace K1 := Lib.hid (spI.rd_below K1.out hb)
      clear hb
      obtain ⟨bla0, qa00, qa01, qa02⟩ := Ba0.c3
      go_wp2_with (fail)
      refine (HV.out _ K1.out).mono ?_; rintro e w2 ⟨rfl, rfl⟩
      clear bla0 qa00 qa01 qa02
      obtain ⟨bla0, qa00, qa01, qa02⟩ := Ba0.c3
      go_wp2_with (fail)
      refine (H1.out _ _ _ R0.out K1.out).mono ?_; rintro e w2 (⟨hc, rfl, hb2⟩ | ⟨hc, u2, S2, rfl, ow2, hS2, hb2⟩)
      · have HEC := Lib.hid (HE4.out hc).1
        have HER := Lib.hid (HE4.out hc).2
        replace L := bstep L L.size hb2
        clear HE4 HE0 hc
        go_wp2_with (fail)
        refine bodyPost_ret (v := .tuple #[.slice none 0 0, .int .i64 4]) (by simp [results, Try.results36, go_sem]) rfl ?_
        rw [HER.out, HEC.out]
        exact madeNil rfl L
      · have HEC := Lib.hid (HE0.out hc).1
        have HER := Lib.hid (HE0.out hc).2
        have hL := L.size
        replace L := bstep L L.size hb2
        clear HE4 HE0 hc
        go_wp2_with (fail)
        refine bodyPost_ret (v := .tuple #[u2, .int .i64 0]) (by simp [results, Try.results36, go_sem]) rfl ?_
        rw [HER.out, HEC.out]
        exact madeOwn rfl ow2 (fun k hk => by have := hS2 k hk; omega) HLS.out L
end Go.Proofs.Ytggkoihlmijacaa
