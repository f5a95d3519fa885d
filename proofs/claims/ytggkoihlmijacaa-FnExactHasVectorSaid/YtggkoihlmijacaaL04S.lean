/- The program's HasVector. -/
import Derived.Test.YtggkoihlmijacaaL04D
import Derived.Test.YtggkoihlmijacaaL02S
import Derived.Test.YtggkoihlmijacaaL02C
import Derived.Test.YtggkoihlmijacaaL02Q
import Derived.Deep.RegionHeld3
namespace Go.Proofs.Ytggkoihlmijacaa
open Go.RowKit
set_option linter.unusedVariables false
set_option linter.unusedSimpArgs false

theorem Num.Vec.map_mod_ {p : Int} {n : Nat} {v : List Int} (h : Num.Vec p n v) : v.map (· % p) = v := h.map_mod
set_option maxRecDepth 100000 in
set_option maxHeartbeats 8000000 in
theorem iHasVector_ok (v0 : Value) (x0 : Mat) (v1 : Value) (x1 : List Int) (w : World) (h0 : spMat.rd w v0 x0) (h1 : spI.rd w v1 x1) (s0 : spMat.sz x0 ≤ 1048576) (s1 : spI.sz x1 ≤ 1048576) : Calls Try.prog 20 #[v0, v1] w (RetBC (rHasVector x0 x1) (cHasVector x0 x1) w) := by
  obtain ⟨A0, n0, c0, rfl, r0⟩ := spMat_form h0
  obtain ⟨rfl, -, -, -⟩ := rdII_of r0
  obtain ⟨A1, c1, rfl, m1, r1⟩ := spI_form h1
  have m1' := m1
  unfold maxLen at m1'
  have L : Below w.heap.size w (w.alloc (.cells [.int .i64 x0.P, .int .i64 x0.C, .slice A0 x0.R.length c0].toArray 27)) := by go_grown
  have Ba0 : Blk (w.alloc (.cells [.int .i64 x0.P, .int .i64 x0.C, .slice A0 x0.R.length c0].toArray 27)) w.heap.size [.int .i64 x0.P, .int .i64 x0.C, .slice A0 x0.R.length c0] 27 := by have := Blk.new w [.int .i64 x0.P, .int .i64 x0.C, .slice A0 x0.R.length c0] 27; simpa only [World.size_alloc] using this
  have K0 := Lib.hid (spMat.rd_below h0 L)
  have R0 := Lib.hid (spII.rd_below r0 L)
  clear h0 r0
  have K1 := Lib.hid (spI.rd_below h1 L)
  clear h1 r1
  cases hk0 : x0.sub with
  | false =>
    have HEC : Hid (cHasVector x0 x1 = 1) := Lib.hid (by unfold cHasVector; simp [hk0])
    have HER : Hid (rHasVector x0 x1 = false) := Lib.hid (by unfold rHasVector; rw [HEC.out]; rfl)
    have HC := Lib.hid (isSub_no _ x0 _ K0.out hk0)
    clear hk0
    go_enter Try.func20, Try.ntmps20
    go_wp2_with (fail)
    refine (HC.out).mono ?_; rintro e w1 ⟨rfl, hb⟩
    replace L := bstep L L.size hb
    replace Ba0 := Ba0.below hb
    replace K0 := Lib.hid (spMat.rd_below K0.out hb)
    replace R0 := Lib.hid (spII.rd_below R0.out hb)
    replace K1 := Lib.hid (spI.rd_below K1.out hb)
    clear hb
    obtain ⟨bla0, qa00, qa01, qa02⟩ := Ba0.c3
    go_wp2_with (fail)
    refine bodyPost_ret (v := .tuple #[.bool false, .int .i64 1]) (by simp [results, Try.results20, go_sem]) rfl ?_
    rw [HER.out, HEC.out]
    exact ⟨rfl, L⟩
  | true =>
    have HC := Lib.hid (isSub_yes _ x0 _ K0.out hk0)
    obtain ⟨h1, h2, h3, h4, h5, h6, h7⟩ := Mat.sub_out hk0
    have HV : Hid (∀ W, spI.rd W (.slice A1 x1.length c1) x1 → Calls Try.prog 56 #[.int .i64 x0.P, .int .i64 x0.C, .slice A1 x1.length c1] W fun e w' => e = .returned (.bool (Num.vecB x0.P x0.C x1)) ∧ W = w') := Lib.hid fun W hW => (by
        obtain ⟨A', c', e, hm, hr⟩ := hW
        simp only [Value.slice.injEq] at e
        obtain ⟨rfl, -, rfl⟩ := e
        exact isVec_any x0.P x0.C A1 c1 x1 W hr hm)
    cases hv : Num.vecB x0.P x0.C x1 with
    | false =>
      have HEC : Hid (cHasVector x0 x1 = 1) := Lib.hid (by unfold cHasVector; simp [hv])
      have HER : Hid (rHasVector x0 x1 = false) := Lib.hid (by unfold rHasVector; rw [HEC.out]; rfl)
      clear h1 h2 h3 h4 h5 h6 h7 hk0
      rw [hv] at HV
      clear hv
      go_enter Try.func20, Try.ntmps20
      go_wp2_with (fail)
      refine (HC.out).mono ?_; rintro e w1 ⟨rfl, hb⟩
      replace L := bstep L L.size hb
      replace Ba0 := Ba0.below hb
      replace K0 := Lib.hid (spMat.rd_below K0.out hb)
      replace R0 := Lib.hid (spII.rd_below R0.out hb)
      replace K1 := Lib.hid (spI.rd_below K1.out hb)
      clear hb
      obtain ⟨bla0, qa00, qa01, qa02⟩ := Ba0.c3
      go_wp2_with (fail)
      refine (HV.out _ K1.out).mono ?_; rintro e w2 ⟨rfl, rfl⟩
      clear bla0 qa00 qa01 qa02
      go_wp2_with (fail)
      refine bodyPost_ret (v := .tuple #[.bool false, .int .i64 1]) (by simp [results, Try.results20, go_sem]) rfl ?_
      rw [HER.out, HEC.out]
      exact ⟨rfl, L⟩
    | true =>
      have vv : Num.Vec x0.P x0.C.toNat x1 := Num.vec_of (show 0 < x0.P by omega) (by rw [show ((x0.C.toNat : Nat) : Int) = x0.C by omega]; exact hv)
      have vl := vv.len
      obtain ⟨b, hb⟩ : ∃ b, decide (x1.length ≤ Num.lead (Num.clearV x0.P x0.R x1)) = b := ⟨_, rfl⟩
      have HEC : Hid (cHasVector x0 x1 = 0) := Lib.hid (by unfold cHasVector; simp [hv, hk0])
      have HER : Hid (rHasVector x0 x1 = b) := Lib.hid (by unfold rHasVector; rw [HEC.out, ← hb]; rfl)
      have cl := Num.clear_length x0.P x0.R x1
      have ll := Num.lead_le (Num.clearV x0.P x0.R x1)
      have hbb : Hid (((Num.lead (Num.clearV x0.P x0.R x1) : Int) == ((Num.clearV x0.P x0.R x1).length : Int)) = b) := Lib.hid (by rw [← hb, cl]; by_cases e : x1.length ≤ Num.lead (Num.clearV x0.P x0.R x1); (· simp [e]; omega); (· simp [e]; omega))
      have hm : Hid (x1.map (· % x0.P) = x1) := Lib.hid vv.map_mod_
      have H1 : Hid (∀ W u, spMat.rd W u x0 → Calls Try.prog 48 #[u] W (Made (spRR x0.P) x0.R W)) := Lib.hid fun W u hu => rowsOf_any u x0 W hu (Mat.sub_ok hk0)
      have H2 : Hid (∀ W u, spI.rd W u x1 → Calls Try.prog 58 #[.int .i64 x0.P, u] W (Made (spR x0.P) x1 W)) := Lib.hid fun W u hu => by
        have := residuesOf_any x0.P u x1 W hu (by omega) (by omega) (by omega)
        rwa [hm.out] at this
      have H3 : Hid (∀ W u v, (spRR x0.P).rd W u x0.R → (spR x0.P).rd W v x1 → Calls Try.prog 57 #[u, v] W (Made (spR x0.P) (Num.clearV x0.P x0.R x1) W)) := Lib.hid fun W u v hu hw => remainder_any x0.P u v x0.R x1 x0.C.toNat W hu hw h2 h3 h7.vec h7.lt vv (by omega) (by omega)
      have H4 : Hid (∀ W v, (spR x0.P).rd W v (Num.clearV x0.P x0.R x1) → Calls Try.prog 59 #[v] W fun e w' => e = .returned (.int .i64 (Num.lead (Num.clearV x0.P x0.R x1) : Nat)) ∧ W = w') := Lib.hid fun W v hw => pivotOf_any x0.P v _ W hw (by omega)
      clear hk0 h1 h2 h3 h4 h5 h6 h7 vv vl cl ll hb hm
      rw [hv] at HV
      clear hv
      generalize Num.clearV x0.P x0.R x1 = cv at *
      generalize Num.lead cv = ld at *
      go_enter Try.func20, Try.ntmps20
      go_wp2_with (fail)
      refine (HC.out).mono ?_; rintro e w1 ⟨rfl, hb⟩
      replace L := bstep L L.size hb
      replace Ba0 := Ba0.below hb
      replace K0 := Lib.hid (spMat.rd_below K0.out hb)
      replace R0 := Lib.hid (spII.rd_below R0.out hb)
      replace K1 := Lib.hid (spI.rd_below K1.out hb)
      clear hb
      obtain ⟨bla0, qa00, qa01, qa02⟩ := Ba0.c3
      go_wp2_with (fail)
      refine (HV.out _ K1.out).mono ?_; rintro e w2 ⟨rfl, rfl⟩
      clear bla0 qa00 qa01 qa02
      obtain ⟨bla0, qa00, qa01, qa02⟩ := Ba0.c3
      have LC0 : Below w1.heap.size w1 w1.drew := (Below.refl _ _).drew
      go_wp2_with (fail)
      go_region_held3 (fun wx => wx.cell? ⟨w.heap.size, 0, none⟩ = some (.int .i64 x0.P) ∧ wx.cell? ⟨w.heap.size, 1, none⟩ = some (.int .i64 x0.C) ∧ wx.cell? ⟨w.heap.size, 2, none⟩ = some (.slice A0 x0.R.length c0)) (first | assumption | go_keep) (first
          | (go_at_call 48; refine (H1.out _ _ (spMat.rd_below K0.out LC0)).mono ?_; rintro e w2 ⟨uo, So, rfl, owo, hSo, hbo⟩; have LC1 := bstep LC0 LC0.size hbo; have SMo : w2.cell? ⟨w.heap.size, 0, none⟩ = some (.int .i64 x0.P) ∧ w2.cell? ⟨w.heap.size, 1, none⟩ = some (.int .i64 x0.C) ∧ w2.cell? ⟨w.heap.size, 2, none⟩ = some (.slice A0 x0.R.length c0) := ⟨(Blk.cell (Ba0.below LC1) 0 (by simp)), (Blk.cell (Ba0.below LC1) 1 (by simp)), (Blk.cell (Ba0.below LC1) 2 (by simp))⟩)
          | (go_at_call 58; refine (H2.out _ _ (spI.rd_below K1.out LC1)).mono ?_; rintro e w3 ⟨uq, Sq, rfl, owq, hSq, hbq⟩; have LC2 := bstep LC1 LC1.size hbq; have SMq : w3.cell? ⟨w.heap.size, 0, none⟩ = some (.int .i64 x0.P) ∧ w3.cell? ⟨w.heap.size, 1, none⟩ = some (.int .i64 x0.C) ∧ w3.cell? ⟨w.heap.size, 2, none⟩ = some (.slice A0 x0.R.length c0) := ⟨(Blk.cell (Ba0.below LC2) 0 (by simp)), (Blk.cell (Ba0.below LC2) 1 (by simp)), (Blk.cell (Ba0.below LC2) 2 (by simp))⟩)
          | (go_at_call 57; refine (H3.out _ _ _ ((spRR x0.P).rd_below ((spRR x0.P).own_rd owo) hbq) ((spR x0.P).own_rd owq)).mono ?_; rintro e w4 ⟨ur, Sr, rfl, owr, hSr, hbr⟩; have LC3 := bstep LC2 LC2.size hbr; obtain ⟨Ar, cr, rfl, -⟩ := spR_form ((spR x0.P).own_rd owr); have SMr : w4.cell? ⟨w.heap.size, 0, none⟩ = some (.int .i64 x0.P) ∧ w4.cell? ⟨w.heap.size, 1, none⟩ = some (.int .i64 x0.C) ∧ w4.cell? ⟨w.heap.size, 2, none⟩ = some (.slice A0 x0.R.length c0) := ⟨(Blk.cell (Ba0.below LC3) 0 (by simp)), (Blk.cell (Ba0.below LC3) 1 (by simp)), (Blk.cell (Ba0.below LC3) 2 (by simp))⟩))
      replace L := bstep L L.size LC3
      have HP := Lib.hid (H4.out _ _ ((spR x0.P).own_rd owr))
      have HBB := hbb.out
      clear hbb
      go_wp2_with (fail)
      refine HP.out.mono ?_; rintro e w9 ⟨rfl, rfl⟩
      go_wp2_with (fail)
      refine bodyPost_ret (v := .tuple #[.bool b, .int .i64 0]) (by simp [results, Try.results20, go_sem]) rfl ?_
      rw [HER.out, HEC.out]
      exact ⟨rfl, L⟩
end Go.Proofs.Ytggkoihlmijacaa
