/- Collection of the program: CollectStep, IsNormalWord, CollectWord. -/
import Derived.Test.YtahmhdpgdhfjnaaL13K
import Derived.Test.YtahmhdpgdhfjnaaL11M
namespace Go.Proofs.Ytahmhdpgdhfjnaa
open Go.RowKit
set_option linter.unusedVariables false
set_option linter.unusedSimpArgs false

set_option maxRecDepth 100000 in
set_option maxHeartbeats 2000000 in
theorem iCollectStep_ok (v0 : Value) (p : Pres) (v1 : Value) (x : List Int) (w : World) (h0 : PresC w v0 p) (h1 : spI.rd w v1 x) (s0 : spPres.sz p ≤ 1048576) (s1 : spI.sz x ≤ 1048576) : Calls Try.prog 26 #[v0, v1] w (MadeNC spI (rCollectStep p x) (nCollectStep p x) (cCollectStep p x) w) := by
  obtain ⟨O, W, J⟩ := p
  have h0' := h0
  obtain ⟨A0, c0, A1, c1, A2, c2, rfl, ⟨hO, hW, hJ⟩, m0, m1, m2, hc0⟩ := h0
  replace hO : RdI w A0 O := hO
  replace hW : RdW w A1 W := hW
  replace hJ : RdX w A2 J := hJ
  simp only at h0' m0 ⊢
  obtain ⟨B, d, rfl, hl, hx⟩ := h1
  have b0 : Below w.heap.size w (w.alloc (.cells #[.slice A0 O.length c0, .slice A1 W.length c1, .slice A2 J.length c2] 28)) := by go_grown
  have BX := (Blk.new w [.slice A0 O.length c0, .slice A1 W.length c1, .slice A2 J.length c2] 28)
  have HI := Lib.hid (iPos_any A0 A1 A2 B c0 c1 c2 d O W J x _ (h0'.below b0) (hx.below' b0) hl)
  generalize hW0 : (w.alloc (.cells #[.slice A0 O.length c0, .slice A1 W.length c1, .slice A2 J.length c2] 28)) = W0 at *
  obtain ⟨bl, x0, x1, x2⟩ := BX.c3
  unfold RetB at HI
  cases hpos : Pres.pos ⟨O, W, J⟩ x with
  | true =>
    rw [hpos] at HI
    obtain ⟨hpre, hl64, hpw⟩ := Pres.pos_out hpos
    replace hpre : Num.preB O W J = true := hpre
    replace hpw : Num.PosW O.length x := hpw
    have HR : Hid (nCollectStep ⟨O, W, J⟩ x = Num.stI O x ∧ cCollectStep ⟨O, W, J⟩ x = 0) := Lib.hid ⟨by unfold nCollectStep; rw [if_pos hpos], if_pos hpos⟩
    have HR1 : Hid (Num.atW O x < x.length → rCollectStep ⟨O, W, J⟩ x = Num.stpW O W J x (Num.atW O x)) := Lib.hid fun h => by unfold rCollectStep; rw [if_pos hpos, if_pos h]
    have HR2 : Hid (¬ Num.atW O x < x.length → rCollectStep ⟨O, W, J⟩ x = x) := Lib.hid fun h => by unfold rCollectStep; rw [if_pos hpos, if_neg h]
    have HCO : Hid (∀ W', Below w.heap.size w W' → _) := Lib.hid fun W' hb => collectorOf_any A0 A1 A2 c0 c1 c2 O W J W' (hO.below' hb) (hW.below' hb) (hJ.below' hb) hpre
    have HCL : Hid (∀ W', Below w.heap.size w W' → _) := Lib.hid fun W' hb => cloneI_any B d x W' (hx.below' hb) (by omega)
    have HST : Hid (∀ (A C : Option Addr) (c d : Nat) W', RulesRd W' A (Num.rels O W J) → RdI W' C x → x.length ≤ d → _) := Lib.hid fun A C c d W' hr hc hd => cstep_any A C c d O W J x W' hpre hr hc (by omega) hd hpw
    have HLN : Hid (Num.atW O x < x.length → (Num.stpW O W J x (Num.atW O x)).length ≤ 100) := Lib.hid fun h => by have := Num.stpW_len (Num.V9.of hpre) hpw h; omega
    clear hO hW hJ hpre hx hpw hpos h0'
    unfold CStep at HST
    generalize (Num.rels O W J) = qs at *
    generalize Num.stI O x = r at *
    go_enter Try.func26, Try.ntmps26
    go_wp2_with (fail)
    clear hW0
    refine HI.out.mono ?_; rintro e w1 ⟨rfl, hb1⟩
    have L1 := bstep b0 b0.size hb1
    obtain ⟨bl1, y0, y1, y2⟩ := (BX.below hb1).c3
    have HC1 := Lib.hid (HCO.out w1 L1)
    clear HI HCO x0 x1 x2
    go_wp2_with (fail)
    refine HC1.out.mono ?_; rintro e w2 ⟨A, c, rfl, hqc, hr, hb2⟩
    have L2 := bstep L1 L1.size hb2
    have HC2 := Lib.hid (HCL.out w2 L2)
    clear HC1 HCL
    go_wp2_with (fail)
    refine HC2.out.mono ?_; rintro e w3 ⟨u3, rfl, ow3, hb3⟩
    obtain ⟨C3, d3, rfl, hd3⟩ := ow3.capN
    have L3 := bstep L2 L2.size hb3
    have HC3 := Lib.hid (HST.out A C3 c d3 w3 (hr.below hb3) ow3.reads hd3)
    have HO3 := Lib.hid ow3
    clear HC2 HST ow3 hr
    go_wp2_with (fail)
    refine HC3.out.mono ?_; rintro e w4 ⟨u4, rfl, k1, k2, hb4⟩
    have K1 := Lib.hid k1
    have K2 := Lib.hid k2
    clear k1 k2 HC3
    go_wp2_with (fail)
    go_ret3
    rw [HR.out.1, HR.out.2]
    by_cases hat : Num.atW O x < x.length
    · rw [HR1.out hat]
      exact MadeNC.list ((K1.out hat).base_ L3.size) (by have := HLN.out hat; omega) (bstep L3 L3.size hb4)
    · rw [HR2.out hat, K2.out hat]
      exact MadeNC.list ((HO3.out.base_ L2.size).below hb4) (by omega) (bstep L3 L3.size hb4)
  | false =>
    rw [hpos] at HI
    have HR : Hid (rCollectStep ⟨O, W, J⟩ x = [] ∧ nCollectStep ⟨O, W, J⟩ x = 0 ∧ cCollectStep ⟨O, W, J⟩ x = 1) := Lib.hid ⟨by unfold rCollectStep; simp [hpos], by unfold nCollectStep; simp [hpos], by unfold cCollectStep; simp [hpos]⟩
    clear hO hW hJ hx hpos h0'
    go_enter Try.func26, Try.ntmps26
    go_wp2_with (fail)
    clear hW0
    refine HI.out.mono ?_; rintro e w1 ⟨rfl, hb1⟩
    go_wp2_with (fail)
    go_ret3
    rw [HR.out.1, HR.out.2.1, HR.out.2.2]
    exact MadeNC.nil (bstep b0 b0.size hb1)
theorem iIsNormalWord_ok (v0 : Value) (p : Pres) (v1 : Value) (x : List Int) (w : World) (h0 : PresC w v0 p) (h1 : spI.rd w v1 x) (s0 : spPres.sz p ≤ 1048576) (s1 : spI.sz x ≤ 1048576) : Calls Try.prog 39 #[v0, v1] w (RetB (rIsNormalWord p x) w) := by
  have h0' := h0
  obtain ⟨A0, c0, A1, c1, A2, c2, rfl, -, -, -, -, -⟩ := h0
  have b0 : Below w.heap.size w (w.alloc (.cells #[.slice A0 p.O.length c0, .slice A1 p.W.length c1, .slice A2 p.J.length c2] 28)) := by go_grown
  have HI := Lib.hid (iCollectStep_ok _ p v1 x _ (h0'.below b0) (spI.rd_below h1 b0) s0 s1)
  obtain ⟨B, d, rfl, -, -⟩ := h1
  have HF : Hid ((decide (nCollectStep p x < 0) && decide (cCollectStep p x = 0)) = rIsNormalWord p x) := Lib.hid (by
    unfold nCollectStep cCollectStep rIsNormalWord
    cases hp : p.pos x with
    | true =>
      simp only [if_true, Bool.true_and, decide_true, Bool.and_true]
      unfold Num.stI
      by_cases h : Num.atW p.O x < x.length
      · rw [if_pos h, decide_eq_false (by omega), decide_eq_false (by simpa using h)]
      · rw [if_neg h, decide_eq_true (by omega), decide_eq_true h]
    | false => simp)
  unfold MadeNC at HI
  generalize nCollectStep p x = n at *
  generalize cCollectStep p x = c at *
  clear h0'
  go_enter Try.func39, Try.ntmps39
  go_wp2_with (fail)
  refine HI.out.mono ?_; rintro e w1 ⟨u, S, rfl, -, -, -, hb1⟩
  have L1 := bstep b0 b0.size hb1
  clear HI
  by_cases hn : n < 0
  · have t1 : decide (n < 0) = true := decide_eq_true hn
    by_cases hc : c = 0
    · have t2 : (c == 0) = true := by simpa using hc
      have HF2 : Hid (rIsNormalWord p x = true) := Lib.hid (by rw [← HF.out, t1, decide_eq_true hc]; rfl)
      clear hc
      go_wp2_with (fail)
      go_ret
      exact ⟨ret_b HF2.out.symm, L1⟩
    · have t2 : (c == 0) = false := by simpa using hc
      have HF2 : Hid (rIsNormalWord p x = false) := Lib.hid (by rw [← HF.out, t1, decide_eq_false hc]; rfl)
      clear hc
      go_wp2_with (fail)
      go_ret
      exact ⟨ret_b HF2.out.symm, L1⟩
  · have t1 : decide (n < 0) = false := decide_eq_false hn
    have HF2 : Hid (rIsNormalWord p x = false) := Lib.hid (by rw [← HF.out, t1]; rfl)
    go_wp2_with (fail)
    go_ret
    exact ⟨ret_b HF2.out.symm, L1⟩
set_option maxRecDepth 100000 in
set_option maxHeartbeats 2000000 in
theorem iCollectWord_ok (v0 : Value) (p : Pres) (v1 : Value) (x : List Int) (L : Int) (w : World) (h0 : PresC w v0 p) (h1 : CapI w v1 x) (s0 : spPres.sz p ≤ 1048576) (s1 : spI.sz x ≤ 1048576) : Calls Try.prog 45 #[v0, v1, .int .i64 L] w (MadeNC spI (rCollectWord p x L) (nCollectWord p x L) (cCollectWord p x L) w) := by
  obtain ⟨O, W, J⟩ := p
  have h0' := h0
  obtain ⟨A0, c0, A1, c1, A2, c2, rfl, ⟨hO, hW, hJ⟩, m0, m1, m2, hc0⟩ := h0
  replace hO : RdI w A0 O := hO
  replace hW : RdW w A1 W := hW
  replace hJ : RdX w A2 J := hJ
  simp only at h0' m0 ⊢
  obtain ⟨B, d, rfl, hl, hx, hd⟩ := h1
  have b0 : Below w.heap.size w (w.alloc (.cells #[.slice A0 O.length c0, .slice A1 W.length c1, .slice A2 J.length c2] 28)) := by go_grown
  have BX := (Blk.new w [.slice A0 O.length c0, .slice A1 W.length c1, .slice A2 J.length c2] 28)
  have HI := Lib.hid (iPos_any A0 A1 A2 B c0 c1 c2 d O W J x _ (h0'.below b0) (hx.below' b0) hl)
  generalize hW0 : (w.alloc (.cells #[.slice A0 O.length c0, .slice A1 W.length c1, .slice A2 J.length c2] 28)) = W0 at *
  obtain ⟨bl, x0, x1, x2⟩ := BX.c3
  unfold RetB at HI
  cases hpos : Pres.pos ⟨O, W, J⟩ x with
  | true =>
    rw [hpos] at HI
    obtain ⟨hpre, hl64, hpw⟩ := Pres.pos_out hpos
    replace hpre : Num.preB O W J = true := hpre
    replace hpw : Num.PosW O.length x := hpw
    have HR : Hid (rCollectWord ⟨O, W, J⟩ x L = Num.cdR O W J x L ∧ nCollectWord ⟨O, W, J⟩ x L = Num.cdN O W J x L ∧ cCollectWord ⟨O, W, J⟩ x L = Num.cdC O W J x L) := Lib.hid (by
      unfold rCollectWord nCollectWord cCollectWord Num.cdR Num.cdN Num.cdC tCollectWord
      rw [hpos]
      cases Num.limB L <;> simp)
    have HCO : Hid (∀ W', Below w.heap.size w W' → _) := Lib.hid fun W' hb => collected_any A0 A1 A2 B c0 c1 c2 d O W J x L W' (hO.below' hb) (hW.below' hb) (hJ.below' hb) hpre (hx.below' hb) (by omega) hd hpw
    clear hO hW hJ hpre hx hpw hpos h0'
    unfold MadeNC at HCO
    generalize Num.cdR O W J x L = R at *
    generalize Num.cdN O W J x L = N at *
    generalize Num.cdC O W J x L = C at *
    go_enter Try.func45, Try.ntmps45
    go_wp2_with (fail)
    clear hW0
    refine HI.out.mono ?_; rintro e w1 ⟨rfl, hb1⟩
    have L1 := bstep b0 b0.size hb1
    obtain ⟨bl1, y0, y1, y2⟩ := (BX.below hb1).c3
    have HC1 := Lib.hid (HCO.out w1 L1)
    clear HI HCO x0 x1 x2
    go_wp2_with (fail)
    refine HC1.out.mono ?_; rintro e w2 ⟨u, S, rfl, ow, hS, hcn, hb2⟩
    have HO2 := Lib.hid ow
    clear ow HC1
    go_wp2_with (fail)
    go_ret3
    rw [HR.out.1, HR.out.2.1, HR.out.2.2]
    exact ⟨u, S, rfl, HO2.out, fun k hk => Nat.le_trans L1.size (hS k hk), hcn, bstep L1 L1.size hb2⟩
  | false =>
    rw [hpos] at HI
    have HR : Hid (rCollectWord ⟨O, W, J⟩ x L = [] ∧ nCollectWord ⟨O, W, J⟩ x L = 0 ∧ cCollectWord ⟨O, W, J⟩ x L = 1) := Lib.hid ⟨by unfold rCollectWord; simp [hpos], by unfold nCollectWord; simp [hpos], by unfold cCollectWord; simp [hpos]⟩
    clear hO hW hJ hx hpos h0'
    go_enter Try.func45, Try.ntmps45
    go_wp2_with (fail)
    clear hW0
    refine HI.out.mono ?_; rintro e w1 ⟨rfl, hb1⟩
    go_wp2_with (fail)
    go_ret3
    rw [HR.out.1, HR.out.2.1, HR.out.2.2]
    exact MadeNC.nil (bstep b0 b0.size hb1)
end Go.Proofs.Ytahmhdpgdhfjnaa
