/- The model's HasVector. -/
import Derived.Test.YtggkoihlmijacaaL04C
import Derived.Test.YtggkoihlmijacaaL02J
import Derived.Test.YtggkoihlmijacaaL03N
namespace Go.Proofs.Ytggkoihlmijacaa
open Go.RowKit
set_option linter.unusedVariables false
set_option linter.unusedSimpArgs false

set_option maxRecDepth 100000 in
set_option maxHeartbeats 8000000 in
theorem sHasVector_ok (v0 : Value) (x0 : Mat) (v1 : Value) (x1 : List Int) (w : World) (h0 : spMat.rd w v0 x0) (h1 : spI.rd w v1 x1) (s0 : spMat.sz x0 ≤ 1048576) (s1 : spI.sz x1 ≤ 1048576) : Calls Try.prog 18 #[v0, v1] w (RetBC (rHasVector x0 x1) (cHasVector x0 x1) w) := by
  obtain ⟨A0, n0, c0, rfl, r0⟩ := spMat_form h0
  obtain ⟨rfl, -, -, -⟩ := rdII_of r0
  obtain ⟨A1, c1, rfl, m1, r1⟩ := spI_form h1
  have m1' := m1
  unfold maxLen at m1'
  have L : Below w.heap.size w (w.alloc (.cells [.int .i64 x0.P, .int .i64 x0.C, .slice A0 x0.R.length c0].toArray 27)) := by go_grown
  have Ba0 : Blk (w.alloc (.cells [.int .i64 x0.P, .int .i64 x0.C, .slice A0 x0.R.length c0].toArray 27)) w.heap.size [.int .i64 x0.P, .int .i64 x0.C, .slice A0 x0.R.length c0] 27 := by have := Blk.new w [.int .i64 x0.P, .int .i64 x0.C, .slice A0 x0.R.length c0] 27; simpa only [World.size_alloc] using this
  have K0 := Lib.hid (spMat.rd_below h0 L)
  have R0 := Lib.hid (spII.rd_below r0 L)
  clear h0 r0
  have K1 := Lib.hid (spI.rd_below h1 L)
  clear h1 r1
  cases hk0 : x0.sub with
  | false =>
    have HEC : Hid (cHasVector x0 x1 = 1) := Lib.hid (by unfold cHasVector; simp [hk0])
    have HER : Hid (rHasVector x0 x1 = false) := Lib.hid (by unfold rHasVector; rw [HEC.out]; rfl)
    have HC := Lib.hid (sIsSub_no _ x0 _ K0.out hk0)
    clear hk0
    go_enter Try.func18, Try.ntmps18
    go_wp2_with (fail)
    refine (HC.out).mono ?_; rintro e w1 ⟨rfl, hb⟩
    replace L := bstep L L.size hb
    replace Ba0 := Ba0.below hb
    replace K0 := Lib.hid (spMat.rd_below K0.out hb)
    replace R0 := Lib.hid (spII.rd_below R0.out hb)
    replace K1 := Lib.hid (spI.rd_below K1.out hb)
    clear hb
    obtain ⟨bla0, qa00, qa01, qa02⟩ := Ba0.c3
    go_wp2_with (fail)
    refine bodyPost_ret (v := .tuple #[.bool false, .int .i64 1]) (by simp [results, Try.results18, go_sem]) rfl ?_
    rw [HER.out, HEC.out]
    exact ⟨rfl, L⟩
  | true =>
    have HC := Lib.hid (sIsSub_yes _ x0 _ K0.out hk0)
    obtain ⟨h1, h2, h3, h4, h5, h6, h7⟩ := Mat.sub_out hk0
    have HV : Hid (∀ W, spI.rd W (.slice A1 x1.length c1) x1 → Calls Try.prog 53 #[.int .i64 x0.P, .int .i64 x0.C, .slice A1 x1.length c1] W fun e w' => e = .returned (.bool (Num.vecB x0.P x0.C x1)) ∧ W = w') := Lib.hid fun W hW => (by
        obtain ⟨A', c', e, hm, hr⟩ := hW
        simp only [Value.slice.injEq] at e
        obtain ⟨rfl, -, rfl⟩ := e
        exact sVec_any x0.P x0.C A1 c1 x1 W hr hm h2 h3)
    cases hv : Num.vecB x0.P x0.C x1 with
    | false =>
      have HEC : Hid (cHasVector x0 x1 = 1) := Lib.hid (by unfold cHasVector; simp [hv])
      have HER : Hid (rHasVector x0 x1 = false) := Lib.hid (by unfold rHasVector; rw [HEC.out]; rfl)
      clear h1 h2 h3 h4 h5 h6 h7 hk0
      rw [hv] at HV
      clear hv
      go_enter Try.func18, Try.ntmps18
      go_wp2_with (fail)
      refine (HC.out).mono ?_; rintro e w1 ⟨rfl, hb⟩
      replace L := bstep L L.size hb
      replace Ba0 := Ba0.below hb
      replace K0 := Lib.hid (spMat.rd_below K0.out hb)
      replace R0 := Lib.hid (spII.rd_below R0.out hb)
      replace K1 := Lib.hid (spI.rd_below K1.out hb)
      clear hb
      obtain ⟨bla0, qa00, qa01, qa02⟩ := Ba0.c3
      go_wp2_with (fail)
      refine (HV.out _ K1.out).mono ?_; rintro e w2 ⟨rfl, rfl⟩
      clear bla0 qa00 qa01 qa02
      go_wp2_with (fail)
      refine bodyPost_ret (v := .tuple #[.bool false, .int .i64 1]) (by simp [results, Try.results18, go_sem]) rfl ?_
      rw [HER.out, HEC.out]
      exact ⟨rfl, L⟩
    | true =>
      have vv : Num.Vec x0.P x0.C.toNat x1 := Num.vec_of (show 0 < x0.P by omega) (by rw [show ((x0.C.toNat : Nat) : Int) = x0.C by omega]; exact hv)
      have vl := vv.len
      obtain ⟨b, hb⟩ : ∃ b, decide (x1.length ≤ Num.lead (Num.clearV x0.P x0.R x1)) = b := ⟨_, rfl⟩
      have HEC : Hid (cHasVector x0 x1 = 0) := Lib.hid (by unfold cHasVector; simp [hv, hk0])
      have HER : Hid (rHasVector x0 x1 = b) := Lib.hid (by unfold rHasVector; rw [HEC.out, ← hb]; rfl)
      have cl := Num.clear_length x0.P x0.R x1
      have ll := Num.lead_le (Num.clearV x0.P x0.R x1)
      have H1 : Hid (∀ W u v, spII.rd W u x0.R → spI.rd W v x1 → Calls Try.prog 55 #[.int .i64 x0.P, u, v] W (Made spI (Num.clearV x0.P x0.R x1) W)) := Lib.hid fun W u v hu hw => sClear_any x0.P u v x0.R x1 x0.C.toNat W hu hw h2 h3 h7.vec vv (by omega) (by omega)
      have H2 : Hid (∀ W v, spI.rd W v (Num.clearV x0.P x0.R x1) → Calls Try.prog 54 #[v] W fun e w' => e = .returned (.bool b) ∧ W = w') := Lib.hid fun W v hw => by
        have := sZero_any v _ W hw (by omega)
        rwa [cl, hb] at this
      clear hk0 h1 h2 h3 h4 h5 h6 h7 vv vl cl ll hb
      rw [hv] at HV
      clear hv
      generalize Num.clearV x0.P x0.R x1 = cv at *
      go_enter Try.func18, Try.ntmps18
      go_wp2_with (fail)
      refine (HC.out).mono ?_; rintro e w1 ⟨rfl, hb⟩
      replace L := bstep L L.size hb
      replace Ba0 := Ba0.below hb
      replace K0 := Lib.hid (spMat.rd_below K0.out hb)
      replace R0 := Lib.hid (spII.rd_below R0.out hb)
      replace K1 := Lib.hid (spI.rd_below K1.out hb)
      clear hb
      obtain ⟨bla0, qa00, qa01, qa02⟩ := Ba0.c3
      go_wp2_with (fail)
      refine (HV.out _ K1.out).mono ?_; rintro e w2 ⟨rfl, rfl⟩
      clear bla0 qa00 qa01 qa02
      obtain ⟨bla0, qa00, qa01, qa02⟩ := Ba0.c3
      go_wp2_with (fail)
      refine (H1.out _ _ _ R0.out K1.out).mono ?_; rintro e w2 ⟨u2, S2, rfl, ow2, hS2, hb2⟩
      replace L := bstep L L.size hb2
      go_wp2_with (fail)
      refine (H2.out _ _ (spI.own_rd ow2)).mono ?_; rintro e w9 ⟨rfl, rfl⟩
      go_wp2_with (fail)
      refine bodyPost_ret (v := .tuple #[.bool b, .int .i64 0]) (by simp [results, Try.results18, go_sem]) rfl ?_
      rw [HER.out, HEC.out]
      exact ⟨rfl, L⟩
end Go.Proofs.Ytggkoihlmijacaa
