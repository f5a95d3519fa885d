/- The program's SolveRows. -/
import Derived.Test.YtggkoihlmijacaaL05E
import Derived.Test.YtggkoihlmijacaaL03F
import Derived.Test.YtggkoihlmijacaaL02S
import Derived.Test.YtggkoihlmijacaaL02C
import Derived.Test.YtggkoihlmijacaaL02Q
import Derived.Test.YtggkoihlmijacaaL02M
import Derived.Deep.RegionHeld3
namespace Go.Proofs.Ytggkoihlmijacaa
open Go.RowKit
set_option linter.unusedVariables false
set_option linter.unusedSimpArgs false

theorem madeNil {w w' : World} {c : Int} {e : Ending} (h : e = .returned (.tuple #[.slice none 0 0, .int .i64 c])) (hb : Below w.heap.size w w') : MadeC spI ([] : List Int) c w e w' :=
  ⟨_, fun _ => False, h, ⟨World.ownsRow_nil _ _ _ _, fun k hk => by simp [Value.ownBlock] at hk, fun k hk => hk.elim⟩, fun k hk => hk.elim, by decide, hb⟩
theorem madeOwn {w w' : World} {c : Int} {e : Ending} {u : Value} {S : Nat → Prop} {x : List Int} (h : e = .returned (.tuple #[u, .int .i64 c])) (ho : spI.own w' S u x) (hS : ∀ k, S k → w.heap.size ≤ k) (hl : x.length ≤ 1000) (hb : Below w.heap.size w w') : MadeC spI x c w e w' :=
  ⟨u, S, h, ho, hS, Nat.le_trans hl (by decide), hb⟩
set_option maxRecDepth 100000 in
set_option maxHeartbeats 3000000 in
theorem iSolveRows_ok (v0 : Value) (x0 : Mat) (v1 : Value) (x1 : List Int) (w : World) (h0 : spMat.rd w v0 x0) (h1 : spI.rd w v1 x1) (s0 : spMat.sz x0 ≤ 1048576) (s1 : spI.sz x1 ≤ 1048576) : Calls Try.prog 37 #[v0, v1] w (MadeC spI (rSolveRows x0 x1) (cSolveRows x0 x1) w) := by
  obtain ⟨A0, n0, c0, rfl, r0⟩ := spMat_form h0
  obtain ⟨rfl, -, -, -⟩ := rdII_of r0
  obtain ⟨A1, c1, rfl, m1, r1⟩ := spI_form h1
  have m1' := m1
  unfold maxLen at m1'
  have L : Below w.heap.size w (w.alloc (.cells [.int .i64 x0.P, .int .i64 x0.C, .slice A0 x0.R.length c0].toArray 27)) := by go_grown
  have Ba0 : Blk (w.alloc (.cells [.int .i64 x0.P, .int .i64 x0.C, .slice A0 x0.R.length c0].toArray 27)) w.heap.size [.int .i64 x0.P, .int .i64 x0.C, .slice A0 x0.R.length c0] 27 := by have := Blk.new w [.int .i64 x0.P, .int .i64 x0.C, .slice A0 x0.R.length c0] 27; simpa only [World.size_alloc] using this
  have K0 := Lib.hid (spMat.rd_below h0 L)
  have R0 := Lib.hid (spII.rd_below r0 L)
  clear h0 r0
  have K1 := Lib.hid (spI.rd_below h1 L)
  clear h1 r1
  cases hk0 : x0.ok with
  | false =>
    have HEC : Hid (cSolveRows x0 x1 = 1) := Lib.hid (by unfold cSolveRows; simp [hk0])
    have HER : Hid (rSolveRows x0 x1 = []) := Lib.hid (by unfold rSolveRows; rw [HEC.out]; rfl)
    have HC := Lib.hid (isMat_no _ x0 _ K0.out hk0)
    clear hk0
    go_enter Try.func37, Try.ntmps37
    go_wp2_with (fail)
    refine (HC.out).mono ?_; rintro e w1 ⟨rfl, hb⟩
    replace L := bstep L L.size hb
    replace Ba0 := Ba0.below hb
    replace K0 := Lib.hid (spMat.rd_below K0.out hb)
    replace R0 := Lib.hid (spII.rd_below R0.out hb)
    replace K1 := Lib.hid (spI.rd_below K1.out hb)
    clear hb
    obtain ⟨bla0, qa00, qa01, qa02⟩ := Ba0.c3
    go_wp2_with (fail)
    refine bodyPost_ret (v := .tuple #[.slice none 0 0, .int .i64 1]) (by simp [results, Try.results37, go_sem]) rfl ?_
    rw [HER.out, HEC.out]
    exact madeNil rfl L
  | true =>
    have HC := Lib.hid (isMat_yes _ x0 _ K0.out hk0)
    obtain ⟨h1, h2, h3, h4, h5, h6, h7⟩ := Mat.ok_out hk0
    have HV : Hid (∀ W, spI.rd W (.slice A1 x1.length c1) x1 → Calls Try.prog 56 #[.int .i64 x0.P, .int .i64 x0.C, .slice A1 x1.length c1] W fun e w' => e = .returned (.bool (Num.vecB x0.P x0.C x1)) ∧ W = w') := Lib.hid fun W hW => (by
        obtain ⟨A', c', e, hm, hr⟩ := hW
        simp only [Value.slice.injEq] at e
        obtain ⟨rfl, -, rfl⟩ := e
        exact isVec_any x0.P x0.C A1 c1 x1 W hr hm)
    cases hv : Num.vecB x0.P x0.C x1 with
    | false =>
      have HEC : Hid (cSolveRows x0 x1 = 1) := Lib.hid (by unfold cSolveRows; simp [hv])
      have HER : Hid (rSolveRows x0 x1 = []) := Lib.hid (by unfold rSolveRows; rw [HEC.out]; rfl)
      clear h1 h2 h3 h4 h5 h6 h7 hk0
      rw [hv] at HV
      clear hv
      go_enter Try.func37, Try.ntmps37
      go_wp2_with (fail)
      refine (HC.out).mono ?_; rintro e w1 ⟨rfl, hb⟩
      replace L := bstep L L.size hb
      replace Ba0 := Ba0.below hb
      replace K0 := Lib.hid (spMat.rd_below K0.out hb)
      replace R0 := Lib.hid (spII.rd_below R0.out hb)
      replace K1 := Lib.hid (spI.rd_below K1.out hb)
      clear hb
      obtain ⟨bla0, qa00, qa01, qa02⟩ := Ba0.c3
      go_wp2_with (fail)
      refine (HV.out _ K1.out).mono ?_; rintro e w2 ⟨rfl, rfl⟩
      clear bla0 qa00 qa01 qa02
      go_wp2_with (fail)
      refine bodyPost_ret (v := .tuple #[.slice none 0 0, .int .i64 1]) (by simp [results, Try.results37, go_sem]) rfl ?_
      rw [HER.out, HEC.out]
      exact madeNil rfl L
    | true =>
      have vv : Num.Vec x0.P x0.C.toNat x1 := Num.vec_of (show 0 < x0.P by omega) (by rw [show ((x0.C.toNat : Nat) : Int) = x0.C by omega]; exact hv)
      have vl := vv.len
      have zl : (Num.zeroV x0.R.length).length = x0.R.length := by simp [Num.zeroV]
      have vz : Num.Vec x0.P (x0.C.toNat + x0.R.length) (x1 ++ Num.zeroV x0.R.length) := vv.app (Num.Vec.zeros (by omega) _)
      have E := Num.wide_ech h1 h7
      have el := Num.wide_len h1 h7
      obtain ⟨-, RV, -, -⟩ := Num.solve_parts h1 h7 vv
      have rl := RV.len
      have hm : Hid (x1.map (· % x0.P) = x1) := Lib.hid vv.map_mod
      have HSV : Hid (Num.solveV x0.P x0.R x1 = Num.scaleV x0.P (Num.neg x0.P 1) ((Num.restV x0.P x0.R x1).drop x1.length)) := Lib.hid rfl
      have H1 : Hid (∀ W u, spI.rd W u x1 → Calls Try.prog 58 #[.int .i64 x0.P, u] W (Made (spR x0.P) x1 W)) := Lib.hid fun W u hu => by
        have := residuesOf_any x0.P u x1 W hu (by omega) (by omega) (by omega)
        rwa [hm.out] at this
      have H2 : Hid (∀ W, Calls Try.prog 83 #[.int .i64 x0.P, .int .i64 (x0.R.length : Int)] W (Made (spR x0.P) (Num.zeroV x0.R.length) W)) := Lib.hid fun W => zeroRow_any x0.P x0.R.length W (by omega) (by omega) (by omega)
      have H3 : Hid (∀ W u v g, (spR x0.P).rd W u x1 → (spR x0.P).rd W v (Num.zeroV x0.R.length) → W.cell? ⟨g, 0, none⟩ = some u → W.cell? ⟨g, 1, none⟩ = some v → Calls Try.prog 82 #[.slice (some ⟨g, 0, none⟩) 2 2] W (Made (spR x0.P) (x1 ++ Num.zeroV x0.R.length) W)) := Lib.hid fun W u v g hu hv e1 e2 => concat_any x0.P u v x1 _ g W hu hv (by omega) e1 e2
      have H4 : Hid (∀ W u, spMat.rd W u x0 → Calls Try.prog 84 #[u] W (Made (spRR x0.P) (Num.wideE x0.P x0.R) W)) := Lib.hid fun W u hu => origins_any u x0 W hu hk0
      have H5 : Hid (∀ W u v, (spRR x0.P).rd W u (Num.wideE x0.P x0.R) → (spR x0.P).rd W v (x1 ++ Num.zeroV x0.R.length) → Calls Try.prog 57 #[u, v] W (Made (spR x0.P) (Num.restV x0.P x0.R x1) W)) := Lib.hid fun W u v hu hw => remainder_any x0.P u v _ _ (x0.C.toNat + x0.R.length) W hu hw h2 h3 E.vec E.lt vz (by omega) (by omega)
      have H6 : Hid (∀ W v, (spR x0.P).rd W v (Num.restV x0.P x0.R x1) → Calls Try.prog 59 #[v] W fun e w' => e = .returned (.int .i64 (Num.lead (Num.restV x0.P x0.R x1) : Nat)) ∧ W = w') := Lib.hid fun W v hw => pivotOf_any x0.P v _ W hw (by omega)
      have nb := Num.neg_bd (p := x0.P) 1 (by omega)
      have H7 : Hid (∀ W, Calls Try.prog 86 #[.int .i64 (-1), .int .i64 x0.P] W fun e w' => e = .returned (.agg #[.int .i64 (Num.neg x0.P 1), .int .i64 x0.P]) ∧ Below W.heap.size W w') := Lib.hid fun W => residueOf_any (-1) x0.P W (by omega) (by omega)
      have dv : Num.Vec x0.P x0.R.length ((Num.restV x0.P x0.R x1).drop x1.length) := ⟨by rw [List.length_drop]; omega, fun i => by rw [Num.drop_get]; exact RV.lo _, fun i => by rw [Num.drop_get]; exact RV.hi _⟩
      have hzl : Hid ((Num.zeroV x0.R.length).length = x0.R.length) := Lib.hid zl
      have hb1 : x1.length ≤ 8 := by omega
      have HRL : Hid ((Num.restV x0.P x0.R x1).length = x1.length + x0.R.length) := Lib.hid (by omega)
      have HDV := Lib.hid dv
      have hll := Num.lead_le (Num.restV x0.P x0.R x1)
      rw [hv] at HV
      have HE4 : Hid (Num.lead (Num.restV x0.P x0.R x1) < x1.length → cSolveRows x0 x1 = 4 ∧ rSolveRows x0 x1 = []) := Lib.hid fun hc => by
        have e : cSolveRows x0 x1 = 4 := by unfold cSolveRows; simp [hk0, hv, hc]
        exact ⟨e, by unfold rSolveRows; rw [e]; rfl⟩
      have HE0 : Hid (¬ Num.lead (Num.restV x0.P x0.R x1) < x1.length → cSolveRows x0 x1 = 0 ∧ rSolveRows x0 x1 = Num.solveV x0.P x0.R x1) := Lib.hid fun hc => by
        have e : cSolveRows x0 x1 = 0 := by unfold cSolveRows; simp [hk0, hv, hc]
        exact ⟨e, by unfold rSolveRows; rw [e]; rfl⟩
      clear hk0 h1 h4 h5 h7 vv vl E el RV rl hm zl vz dv hv
      generalize Num.restV x0.P x0.R x1 = rest at *
      generalize Num.lead rest = ld at *
      generalize Num.zeroV x0.R.length = zv at *
      generalize Num.wideE x0.P x0.R = we at *
      generalize Num.neg x0.P 1 = ng at *
      go_enter Try.func37, Try.ntmps37
      go_wp2_with (fail)
      refine (HC.out).mono ?_; rintro e w1 ⟨rfl, hb⟩
      replace L := bstep L L.size hb
      replace Ba0 := Ba0.below hb
      replace K0 := Lib.hid (spMat.rd_below K0.out hb)
      replace R0 := Lib.hid (spII.rd_below R0.out hb)
      replace K1 := Lib.hid (spI.rd_below K1.out hb)
      clear hb
      obtain ⟨bla0, qa00, qa01, qa02⟩ := Ba0.c3
      go_wp2_with (fail)
      refine (HV.out _ K1.out).mono ?_; rintro e w2 ⟨rfl, rfl⟩
      clear bla0 qa00 qa01 qa02
      obtain ⟨bla0, qa00, qa01, qa02⟩ := Ba0.c3
      have LC0 : Below w1.heap.size w1 w1.drew := (Below.refl _ _).drew
      go_wp2_with (fail)
      go_region_held3 (fun wx => wx.cell? ⟨w.heap.size, 0, none⟩ = some (.int .i64 x0.P) ∧ wx.cell? ⟨w.heap.size, 1, none⟩ = some (.int .i64 x0.C) ∧ wx.cell? ⟨w.heap.size, 2, none⟩ = some (.slice A0 x0.R.length c0)) (first | assumption | go_keep) (first
          | (go_at_call 83; refine (H2.out _).mono ?_; rintro e w3 ⟨uq, Sq, rfl, owq, hSq, hbq⟩; have LC2 := bstep LC1 LC1.size hbq; obtain ⟨Aq, cq, rfl, -⟩ := spR_form ((spR x0.P).own_rd owq); have SMq : w3.cell? ⟨w.heap.size, 0, none⟩ = some (.int .i64 x0.P) ∧ w3.cell? ⟨w.heap.size, 1, none⟩ = some (.int .i64 x0.C) ∧ w3.cell? ⟨w.heap.size, 2, none⟩ = some (.slice A0 x0.R.length c0) := ⟨(Blk.cell (Ba0.below LC2) 0 (by simp)), (Blk.cell (Ba0.below LC2) 1 (by simp)), (Blk.cell (Ba0.below LC2) 2 (by simp))⟩; have hal : Below w3.heap.size w3 (w3.alloc (.cells #[.slice Ap x1.length cp, .slice Aq zv.length cq] 56)) := (Below.refl _ _).alloc (Nat.le_refl _) _; have BK := Blk.new w3 [.slice Ap x1.length cp, .slice Aq zv.length cq] 56; obtain ⟨k0, k1, k2⟩ := BK.c2; have KP := Lib.hid ((spR x0.P).rd_below ((spR x0.P).rd_below ((spR x0.P).own_rd owp) hbq) hal); have KQ := Lib.hid ((spR x0.P).rd_below ((spR x0.P).own_rd owq) hal); have LC3 := bstep LC2 LC2.size hal; have SMa : (w3.alloc (.cells #[.slice Ap x1.length cp, .slice Aq zv.length cq] 56)).cell? ⟨w.heap.size, 0, none⟩ = some (.int .i64 x0.P) ∧ (w3.alloc (.cells #[.slice Ap x1.length cp, .slice Aq zv.length cq] 56)).cell? ⟨w.heap.size, 1, none⟩ = some (.int .i64 x0.C) ∧ (w3.alloc (.cells #[.slice Ap x1.length cp, .slice Aq zv.length cq] 56)).cell? ⟨w.heap.size, 2, none⟩ = some (.slice A0 x0.R.length c0) := ⟨(Blk.cell (Ba0.below LC3) 0 (by simp)), (Blk.cell (Ba0.below LC3) 1 (by simp)), (Blk.cell (Ba0.below LC3) 2 (by simp))⟩)
          | (go_at_call 58; refine (H1.out _ _ (spI.rd_below K1.out LC0)).mono ?_; rintro e w2 ⟨up, Sp_, rfl, owp, hSp, hbp⟩; have LC1 := bstep LC0 LC0.size hbp; obtain ⟨Ap, cp, rfl, -⟩ := spR_form ((spR x0.P).own_rd owp); have SMp : w2.cell? ⟨w.heap.size, 0, none⟩ = some (.int .i64 x0.P) ∧ w2.cell? ⟨w.heap.size, 1, none⟩ = some (.int .i64 x0.C) ∧ w2.cell? ⟨w.heap.size, 2, none⟩ = some (.slice A0 x0.R.length c0) := ⟨(Blk.cell (Ba0.below LC1) 0 (by simp)), (Blk.cell (Ba0.below LC1) 1 (by simp)), (Blk.cell (Ba0.below LC1) 2 (by simp))⟩)
          | (go_at_call 82; refine (H3.out _ _ _ _ KP.out KQ.out k1 k2).mono ?_; rintro e w4 ⟨uc, Sc, rfl, owc, hSc, hbc⟩; have LC4 := bstep LC3 LC3.size hbc; have HRC := Lib.hid ((spR x0.P).own_rd owc); obtain ⟨Ac, cc, hca, -⟩ := spR_form ((spR x0.P).own_rd owc); rw [List.length_append] at hca; subst hca; have SMc : w4.cell? ⟨w.heap.size, 0, none⟩ = some (.int .i64 x0.P) ∧ w4.cell? ⟨w.heap.size, 1, none⟩ = some (.int .i64 x0.C) ∧ w4.cell? ⟨w.heap.size, 2, none⟩ = some (.slice A0 x0.R.length c0) := ⟨(Blk.cell (Ba0.below LC4) 0 (by simp)), (Blk.cell (Ba0.below LC4) 1 (by simp)), (Blk.cell (Ba0.below LC4) 2 (by simp))⟩))
      replace L := bstep L L.size LC4
      replace Ba0 := Ba0.below LC4
      replace K0 := Lib.hid (spMat.rd_below K0.out LC4)
      replace R0 := Lib.hid (spII.rd_below R0.out LC4)
      replace K1 := Lib.hid (spI.rd_below K1.out LC4)
      clear LC0 LC1 LC2 LC3 LC4 hbp hbq hbc hal BK k0 k1 k2 KP KQ SMp SMq SMa SMc owp owq owc hSp hSq hSc H1 H2 H3
      obtain ⟨bla0, qa00, qa01, qa02⟩ := Ba0.c3
      go_wp2_with (fail)
      refine (H4.out _ _ K0.out).mono ?_; rintro e w5 ⟨uo, So, rfl, owo, hSo, hb⟩
      clear bla0 qa00 qa01 qa02
      have HRO := Lib.hid ((spRR x0.P).own_rd owo)
      replace HRC := Lib.hid ((spR x0.P).rd_below HRC.out hb)
      obtain ⟨Ao, co, rfl, -, -⟩ := (spRR x0.P).own_rd owo
      clear owo hSo
      replace L := bstep L L.size hb
      replace Ba0 := Ba0.below hb
      replace K0 := Lib.hid (spMat.rd_below K0.out hb)
      replace R0 := Lib.hid (spII.rd_below R0.out hb)
      replace K1 := Lib.hid (spI.rd_below K1.out hb)
      clear hb
      obtain ⟨bla0, qa00, qa01, qa02⟩ := Ba0.c3
      go_wp2_with (fail)
      refine (H5.out _ _ _ HRO.out HRC.out).mono ?_; rintro e w6 ⟨ur, Sr, rfl, owr, hSr, hb⟩
      clear bla0 qa00 qa01 qa02
      have HT : Hid (∀ k, Sr k → w.heap.size ≤ k) := Lib.hid fun k h => by have := hSr k h; have := L.size; omega
      replace L := bstep L L.size hb
      replace Ba0 := Ba0.below hb
      replace K0 := Lib.hid (spMat.rd_below K0.out hb)
      replace R0 := Lib.hid (spII.rd_below R0.out hb)
      replace K1 := Lib.hid (spI.rd_below K1.out hb)
      clear hb
      clear HRO HRC hSr H4 H5
      have HOR := Lib.hid owr
      have HP := Lib.hid (H6.out _ _ ((spR x0.P).own_rd owr))
      obtain ⟨Ar, cr, rfl, -⟩ := spR_form ((spR x0.P).own_rd owr)
      clear owr H6
      obtain ⟨bla0, qa00, qa01, qa02⟩ := Ba0.c3
      go_wp2_with (fail)
      refine HP.out.mono ?_; rintro e w9 ⟨rfl, rfl⟩
      by_cases hc : ld < x1.length
      · have HEC := Lib.hid (HE4.out hc).1
        have HER := Lib.hid (HE4.out hc).2
        have hci : (ld : Int) < (x1.length : Int) := by omega
        clear HE4 HE0 hc
        go_wp2_with (fail)
        refine bodyPost_ret (v := .tuple #[.slice none 0 0, .int .i64 4]) (by simp [results, Try.results37, go_sem]) rfl ?_
        rw [HER.out, HEC.out]
        exact madeNil rfl L
      · have HEC := Lib.hid (HE0.out hc).1
        have HER := Lib.hid (HE0.out hc).2
        have hci : ¬ (ld : Int) < (x1.length : Int) := by omega
        clear HE4 HE0 hc
        rw [HSV.out] at HER
        have hsl := HRL.out
        have q0 : (0 : Int) ≤ (x1.length : Int) := by omega
        have q1 : (x1.length : Int) ≤ (rest.length : Int) := by omega
        have q2 : x1.length ≤ rest.length := by omega
        by_cases hr0 : x0.R.length = 0
        · have hdn : rest.drop x1.length = [] := List.eq_nil_of_length_eq_zero (by rw [List.length_drop]; omega)
          have e0 : rest.length - x1.length = 0 := by omega
          have HDN : Hid (Num.scaleV x0.P ng (rest.drop x1.length) = []) := Lib.hid (by rw [hdn]; rfl)
          have HGEN : Hid (∀ (A : Option Addr) (d : Nat) (W : World), Calls Try.prog 87 #[.slice A 0 d] W (Made spI (Num.scaleV x0.P ng (rest.drop x1.length)) W)) := Lib.hid fun A d W => by rw [HDN.out]; exact valuesOf_any x0.P _ _ _ (rdNone _ _ _ _) (by decide)
          have HSN : Hid (∀ A d W, Calls Try.prog 85 #[.slice A 0 d, .agg #[.int .i64 ng, .int .i64 x0.P]] W fun e w' => e = .returned (.tuple #[]) ∧ Below W.heap.size W w') := Lib.hid fun A d W => scaleNone_any x0.P ng A d W
          have HLZ : Hid ((Num.scaleV x0.P ng (rest.drop x1.length)).length ≤ 1000) := Lib.hid (by rw [HDN.out]; decide)
          have hcap := spR_cap HOR.out
          clear hdn hr0 hsl
          rcases hcap with ⟨rfl, hn, rfl⟩ | ⟨gz, rfl, hcz, hcm⟩
          · have x10 : x1.length = 0 := by omega
            go_wp2_with (fail)
            refine (H7.out _).mono ?_; rintro e w10 ⟨rfl, hb10⟩
            have HOS := Lib.hid ((spR x0.P).own_below HOR.out hb10)
            replace L := bstep L L.size hb10
            clear hb10 bla0 qa00 qa01 qa02
            go_wp2_with (fail)
            refine (HSN.out _ _ _).mono ?_; rintro e w11 ⟨rfl, hb11⟩
            replace L := bstep L L.size hb11
            go_wp2_with (fail)
            refine (HGEN.out _ _ _).mono ?_; rintro e w12 ⟨uz, Sz, rfl, owz, hSz, hbz⟩
            have hLz := L.size
            replace L := bstep L L.size hbz
            go_wp2_with (fail)
            refine bodyPost_ret (v := .tuple #[uz, .int .i64 0]) (by simp [results, Try.results37, go_sem]) rfl ?_
            rw [HER.out, HEC.out]
            exact madeOwn rfl owz (fun k hk => by have := hSz k hk; omega) HLZ.out L
          · have e9 : rest.length = x1.length := by omega
            by_cases hcc : cr = x1.length
            · go_wp2_with (fail)
              refine (H7.out _).mono ?_; rintro e w10 ⟨rfl, hb10⟩
              have HOS := Lib.hid ((spR x0.P).own_below HOR.out hb10)
              replace L := bstep L L.size hb10
              clear hb10 bla0 qa00 qa01 qa02
              go_wp2_with (fail)
              refine (HSN.out _ _ _).mono ?_; rintro e w11 ⟨rfl, hb11⟩
              replace L := bstep L L.size hb11
              go_wp2_with (fail)
              refine (HGEN.out _ _ _).mono ?_; rintro e w12 ⟨uz, Sz, rfl, owz, hSz, hbz⟩
              have hLz := L.size
              replace L := bstep L L.size hbz
              go_wp2_with (fail)
              refine bodyPost_ret (v := .tuple #[uz, .int .i64 0]) (by simp [results, Try.results37, go_sem]) rfl ?_
              rw [HER.out, HEC.out]
              exact madeOwn rfl owz (fun k hk => by have := hSz k hk; omega) HLZ.out L
            · go_wp2_with (fail)
              refine (H7.out _).mono ?_; rintro e w10 ⟨rfl, hb10⟩
              have HOS := Lib.hid ((spR x0.P).own_below HOR.out hb10)
              replace L := bstep L L.size hb10
              clear hb10 bla0 qa00 qa01 qa02
              go_wp2_with (fail)
              refine (HSN.out _ _ _).mono ?_; rintro e w11 ⟨rfl, hb11⟩
              replace L := bstep L L.size hb11
              go_wp2_with (fail)
              refine (HGEN.out _ _ _).mono ?_; rintro e w12 ⟨uz, Sz, rfl, owz, hSz, hbz⟩
              have hLz := L.size
              replace L := bstep L L.size hbz
              go_wp2_with (fail)
              refine bodyPost_ret (v := .tuple #[uz, .int .i64 0]) (by simp [results, Try.results37, go_sem]) rfl ?_
              rw [HER.out, HEC.out]
              exact madeOwn rfl owz (fun k hk => by have := hSz k hk; omega) HLZ.out L
        · have hcap := spR_cap HOR.out
          rcases hcap with ⟨rfl, hn, rfl⟩ | ⟨gz, rfl, hcz, hcm⟩
          · omega
          · have hcc : ¬ (cr = x1.length) := by omega
            have htl : Hid ((rest.take x1.length).length = x1.length) := Lib.hid (by rw [List.length_take]; omega)
            have hdl : (rest.drop x1.length).length = rest.length - x1.length := List.length_drop
            have HDL := Lib.hid hdl
            have HSC : Hid (∀ W, (spR x0.P).own W Sr (.slice (some ⟨gz, 0, none⟩) rest.length cr) rest → Calls Try.prog 85 #[.slice (some ⟨gz, x1.length * 2, none⟩) (rest.length - x1.length) (cr - x1.length), .agg #[.int .i64 ng, .int .i64 x0.P]] W fun e w' => e = .returned (.tuple #[]) ∧ (spR x0.P).own w' Sr (.slice (some ⟨gz, 0, none⟩) rest.length cr) (rest.take x1.length ++ Num.scaleV x0.P ng (rest.drop x1.length)) ∧ ChgS Sr W w') := Lib.hid fun W hW => by
              have := scaleTail_any x0.P ng Sr gz rest.length cr (cr - x1.length) x1.length x0.R.length (rest.take x1.length) (rest.drop x1.length) W (by rw [List.take_append_drop]; exact hW) htl.out h2 h3 nb.1 nb.2 HDV.out (by omega)
              rwa [HDL.out] at this
            have HRT : Hid (∀ W, (spR x0.P).own W Sr (.slice (some ⟨gz, 0, none⟩) rest.length cr) (rest.take x1.length ++ Num.scaleV x0.P ng (rest.drop x1.length)) → (spR x0.P).rd W (.slice (some ⟨gz, x1.length * 2, none⟩) (rest.length - x1.length) (cr - x1.length)) (Num.scaleV x0.P ng (rest.drop x1.length))) := Lib.hid fun W hW => by
              have := rdTail (d := cr - x1.length) hW htl.out (by rw [Num.scaleV_length, HDL.out]; omega)
              rwa [Num.scaleV_length, HDL.out] at this
            have HLZ : Hid ((Num.scaleV x0.P ng (rest.drop x1.length)).length ≤ 1000) := Lib.hid (by rw [Num.scaleV_length, HDL.out]; omega)
            clear hdl hr0 hsl
            go_wp2_with (fail)
            refine (H7.out _).mono ?_; rintro e w10 ⟨rfl, hb10⟩
            have HOS := Lib.hid ((spR x0.P).own_below HOR.out hb10)
            replace L := bstep L L.size hb10
            clear hb10 bla0 qa00 qa01 qa02
            go_wp2_with (fail)
            refine (HSC.out _ HOS.out).mono ?_; rintro e w11 ⟨rfl, ow11, ch11⟩
            replace L := bstepS L L.size HT.out ch11
            have HRZ := Lib.hid (HRT.out _ ow11)
            go_wp2_with (fail)
            refine (valuesOf_any x0.P _ _ _ HRZ.out HLZ.out).mono ?_; rintro e w12 ⟨uz, Sz, rfl, owz, hSz, hbz⟩
            have hLz := L.size
            replace L := bstep L L.size hbz
            go_wp2_with (fail)
            refine bodyPost_ret (v := .tuple #[uz, .int .i64 0]) (by simp [results, Try.results37, go_sem]) rfl ?_
            rw [HER.out, HEC.out]
            exact madeOwn rfl owz (fun k hk => by have := hSz k hk; omega) HLZ.out L
end Go.Proofs.Ytggkoihlmijacaa
