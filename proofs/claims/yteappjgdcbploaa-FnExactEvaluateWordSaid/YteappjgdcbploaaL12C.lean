/- Consistency: the model's l08Level. -/
import Derived.Test.YteappjgdcbploaaL12B
import Derived.Deep.RegionHeld3
import Derived.Deep.CutRange
import Derived.Deep.DeepCutAuto
namespace Go.Proofs.Yteappjgdcbploaa
open Go.RowKit
set_option linter.unusedVariables false
set_option linter.unusedSimpArgs false

/-- A fault as the program hands it back. -/
def fltV (f : Num.Flt) : Value := .agg #[.int .i64 f.k, .int .i64 f.l, .int .i64 f.f, .int .i64 f.s]
theorem flt_store {w0 w : World} {b base : Nat} {t : TypeId} {p q r v : Value} (B : Blk w b [p, q, r, v] t) (x y z u : Value) (hb : base ≤ b) (L : Below base w0 w) :
    ∃ w9, (((w.setCell ⟨b, 0, none⟩ x).setCell ⟨b, 1, none⟩ y).setCell ⟨b, 2, none⟩ z).setCell ⟨b, 3, none⟩ u = w9 ∧ Blk w9 b [x, y, z, u] t ∧ Below base w0 w9 :=
  ⟨_, rfl, (((B.set 0 x).set 1 y).set 2 z).set 3 u, (((L.setCell (p := ⟨b, 0, none⟩) hb x).setCell (p := ⟨b, 1, none⟩) hb y).setCell (p := ⟨b, 2, none⟩) hb z).setCell (p := ⟨b, 3, none⟩) hb u⟩
theorem decide_eq_of {p q : Prop} [Decidable p] [Decidable q] (h : p ↔ q) : decide p = decide q := decide_eq_decide.mpr h
theorem cellV {w : World} {A : Option Addr} {fs : List (List Int)} {j : Nat} (h : RdW w A fs) (hj : j < fs.length) : ∃ g o B c, A = some ⟨g, o, none⟩ ∧ g < w.heap.size ∧ w.cell? ⟨g, o + j, none⟩ = some (.slice B (fs.getD j []).length c) ∧ RdI w B (fs.getD j []) := by
  obtain ⟨g, o, B, c, rfl, h1, h2, _, h4⟩ := h j hj
  exact ⟨g, o, B, c, rfl, h1, h2, h4⟩
/-- The conjugate's place. -/
theorem cellC {w : World} {A : Option Addr} {fs : List (List (List Int))} {i k : Nat} (h : RdX w A fs) (hi : i < fs.length) (hk : k < (fs.getD i []).length) : ∃ g o g' o' c B d, A = some ⟨g, o, none⟩ ∧ w.cell? ⟨g, o + i, none⟩ = some (.slice (some ⟨g', o', none⟩) (fs.getD i []).length c) ∧ w.cell? ⟨g', o' + k, none⟩ = some (.slice B ((fs.getD i []).getD k []).length d) ∧ RdI w B ((fs.getD i []).getD k []) := by
  obtain ⟨g, o, B, c, rfl, _, h2, _, h4⟩ := h i hi
  obtain ⟨g', o', B', d, rfl, _, h5, h6⟩ := cellV h4 hk
  exact ⟨g, o, g', o', c, B', d, rfl, h2, h5, h6⟩
set_option maxRecDepth 100000 in
set_option maxHeartbeats 8000000 in
theorem sLevel_any {A0 A1 A2 : Option Addr} {c0 c1 c2 : Nat} {O : List Int} {W : List (List Int)} {J : List (List (List Int))} (V : Num.Val O W J) (i : Nat) (hi : i < O.length) (C : Num.Con (Num.tlL O W J (i + 1)))
    (w : World) (hP : RdP A0 A1 A2 O W J w) :
    Calls Try.prog 154 #[prV A0 A1 A2 c0 c1 c2 O, .int .i64 (i : Int)] w fun e w' => e = .returned (fltV (Num.fltA O W J i)) ∧ Below w.heap.size w w' := by
  have n6 := V.n6
  have HV := Lib.hid V
  have HA : Hid (AtOk A0 A1 A2 c0 c1 c2 O W J (i + 1)) := Lib.hid (sAt_any V _ (i + 1) rfl (by omega))
  have HI : Hid (ImgOk A0 A1 A2 c0 c1 c2 O W J i) := Lib.hid (sImg_any V i hi)
  have HCn := Lib.hid C
  obtain ⟨W0, hW0⟩ : ∃ X, (w.alloc (.cells #[.slice A0 O.length c0, .slice A1 O.length c1, .slice A2 O.length c2] 29)).alloc (.cells #[.int .i64 0, .int .i64 0, .int .i64 0, .int .i64 0] 132) = X := ⟨_, rfl⟩
  have hz0 : W0.heap.size = w.heap.size + 2 := by rw [← hW0]; simp
  have b0 : Below w.heap.size w W0 := by rw [← hW0]; go_grown
  have BP : Blk W0 w.heap.size [.slice A0 O.length c0, .slice A1 O.length c1, .slice A2 O.length c2] 29 := by rw [← hW0]; exact (Blk.new w [.slice A0 O.length c0, .slice A1 O.length c1, .slice A2 O.length c2] 29).alloc _
  have BF : Blk W0 (w.heap.size + 1) [.int .i64 0, .int .i64 0, .int .i64 0, .int .i64 0] 132 := by
    rw [← hW0]
    have := Blk.new (w.alloc (.cells #[.slice A0 O.length c0, .slice A1 O.length c1, .slice A2 O.length c2] 29)) [.int .i64 0, .int .i64 0, .int .i64 0, .int .i64 0] 132
    simpa using this
  have HPW : Hid (∀ w', Below W0.heap.size W0 w' → Below w.heap.size w w' ∧ RdP A0 A1 A2 O W J w' ∧ w'.cell? ⟨w.heap.size, 0, none⟩ = some (.slice A0 O.length c0) ∧ w'.cell? ⟨w.heap.size, 1, none⟩ = some (.slice A1 O.length c1) ∧ w'.cell? ⟨w.heap.size, 2, none⟩ = some (.slice A2 O.length c2) ∧ Blk w' (w.heap.size + 1) [.int .i64 0, .int .i64 0, .int .i64 0, .int .i64 0] 132) := Lib.hid fun w' hb => by
    have b1 : Below w.heap.size w w' := bstep b0 b0.size hb
    obtain ⟨_, p0, p1, p2⟩ := (BP.below hb).c3
    exact ⟨b1, ⟨hP.1.below' b1, hP.2.1.below' b1, hP.2.2.below' b1⟩, p0, p1, p2, BF.below hb⟩
  obtain ⟨bl, x0, x1, x2⟩ := BP.c3
  obtain ⟨bl', f0, f1, f2, f3⟩ := BF.c4
  have hiw : IntKind.i64.wrap ((i : Int) + 1) = (i : Int) + 1 := IntWalk.i64_in _ (by omega)
  have i0 : (0 : Int) ≤ (i : Int) := by omega
  have i1 : (i : Int) < (O.length : Int) := by omega
  clear BP BF hP V C
  go_enter Try.func154, Try.ntmps154
  go_wp2_with (fail)
  clear hW0 x0 x1 x2 f0 f1 f2 f3
  go_loopw [7] (fun s7 wr => ∃ j : Nat, s7 = .int .i64 (j : Int) ∧ i + 1 ≤ j ∧ j ≤ O.length ∧ Hid (∀ k, i < k → k < j → Num.bP O W J i k = true) ∧ Below W0.heap.size W0 wr) (fun s7 _ => O.length - (intOf s7).toNat)
  case atStart => exact ⟨i + 1, by go_num, by omega, by omega, Lib.hid fun k h1 h2 => by omega, Below.refl _ _⟩
  case round =>
    obtain ⟨j, rfl, hj0, hj, hq, bel⟩ := hrel
    obtain ⟨L, hPr, y0, y1, y2, BFr⟩ := HPW.out _ bel
    by_cases hlt : j < O.length
    · have j0 : (0 : Int) ≤ (j : Int) := by omega
      have j1 : (j : Int) < (O.length : Int) := by omega
      have jW : (j : Int) < (W.length : Int) := by rw [HV.out.lw]; exact j1
      have iJ : (i : Int) < (J.length : Int) := by rw [HV.out.lj]; exact i1
      obtain ⟨k, hk⟩ : ∃ k, k = j - (i + 1) := ⟨_, rfl⟩
      have kR : (k : Int) < ((J.getD i []).length : Int) := by rw [HV.out.lr i hi]; omega
      have k0 : (0 : Int) ≤ (k : Int) := by omega
      have hw1 : IntKind.i64.wrap ((j : Int) - (i : Int)) = (j : Int) - (i : Int) := IntWalk.i64_in _ (by omega)
      have hw2 : IntKind.i64.wrap ((j : Int) - (i : Int) - 1) = (k : Int) := by rw [IntWalk.i64_in _ (by omega)]; omega
      obtain ⟨gJ, oJ, gR, oR, cR, BC, dC, rfl, cJ, cC, rC⟩ := cellC (i := i) (k := k) hPr.2.2 (by rw [HV.out.lj]; exact hi) (by rw [HV.out.lr i hi]; omega)
      rw [HV.out.cl i k hi (by omega)] at cC
      obtain ⟨gO, oO, rfl, hgO, cO⟩ := hPr.1 j hlt
      have HOB := HV.out.ob j hlt
      have HBP := Lib.hid (Num.bP_at HV.out (by omega : i < j) hlt)
      have hCV : Num.cV J i j = ((J.getD i []).getD k []).drop (i + 1) := by rw [hk]; rfl
      have HRP : Hid (∀ W', Below wr.heap.size wr W' → Calls Try.prog 112 #[.agg #[.slice (some ⟨gO, oO, none⟩) O.length c0, .slice A1 O.length c1, .slice (some ⟨gJ, oJ, none⟩) O.length c2], .int .i64 ((i : Int) + 1), .slice BC O.length dC, .int .i64 (O.getD j 0)] W' (VecOut O (repV O W J (i + 1) ((J.getD i []).getD k []) (O.getD j 0).toNat) W')) := Lib.hid fun W' hb => by
        have hP' := (HPW.out _ (bstep bel bel.size hb)).2.1
        have := sRep_any (c0 := c0) (c1 := c1) (c2 := c2) HV.out (i + 1) (by omega) HCn.out W' ((J.getD i []).getD k []) BC dC (O.getD j 0) hP' (rC.below' hb) (HV.out.cl i k hi (by omega)) (HV.out.ce i k _ hi (by omega)) (by omega) (by omega)
        simpa using this
      have HRL : Hid ((repV O W J (i + 1) ((J.getD i []).getD k []) (O.getD j 0).toNat).length = O.length) := Lib.hid (Num.pad_len (HV.out.ok _) ((Num.Con.mon' HV.out HCn.out).pw_P (HV.out.ce i k _ hi (by omega)) _) (by omega))
      have HRE : Hid (decide (repV O W J (i + 1) ((J.getD i []).getD k []) (O.getD j 0).toNat = Num.imgV O W J i (W.getD j [])) = Num.bP O W J i j) := Lib.hid (by
        rw [HBP.out, hCV]
        exact decide_eq_of Num.pad_inj)
      unfold VecOut at HRP
      generalize repV O W J (i + 1) ((J.getD i []).getD k []) (O.getD j 0).toNat = R at *
      have HJR : Hid ((J.getD i []).length = O.length - 1 - i) := Lib.hid (HV.out.lr i hi)
      generalize J.getD i [] = r at *
      generalize O.getD j 0 = oj at *
      clear hCV HBP hk
      go_wp2_with (fail)
      go_still_tail 19, (by kernel_rfl)
      change wpList _ _ _ _ _ wr.drew
      have HC1 := Lib.hid (HRP.out _ ((Below.refl _ _).drew))
      have B1 : Below W0.heap.size W0 wr.drew := bel.drew
      clear HRP cJ cC cO rC hgO hPr y0 y1 y2 BFr HOB bel L
      generalize hWD : wr.drew = wd at *
      clear hWD
      go_wp2_with (fail)
      refine HC1.out.mono ?_; rintro e w2 ⟨A2', c2', rfl, hR2, hb2⟩
      have B2 := bstep B1 B1.size hb2
      obtain ⟨L, hPr, y0, y1, y2, BFr⟩ := HPW.out _ B2
      obtain ⟨gW, oW, BW, dW, rfl, gWl, cW, rW⟩ := cellV (j := j) hPr.2.1 (by rw [HV.out.lw]; exact hlt)
      rw [HV.out.wl j hlt] at cW
      have HR2 := Lib.hid hR2
      have HIM : Hid (Calls Try.prog 138 #[.agg #[.slice (some ⟨gO, oO, none⟩) O.length c0, .slice (some ⟨gW, oW, none⟩) O.length c1, .slice (some ⟨gJ, oJ, none⟩) O.length c2], .int .i64 (i : Int), .slice BW O.length dW] w2.drew (VecOut O (Num.imgV O W J i (W.getD j [])) w2.drew)) := Lib.hid (by
        have b3 : Below w2.heap.size w2 w2.drew := (Below.refl _ _).drew
        exact HI.out _ (W.getD j []) BW dW ⟨hPr.1.below' b3, hPr.2.1.below' b3, hPr.2.2.below' b3⟩ (rW.below' b3) (HV.out.wl j hlt) (HV.out.we j _ hlt))
      unfold VecOut at HIM
      have hIl : (Num.imgV O W J i (W.getD j [])).length = O.length := Num.pad_len (HV.out.ok _) (Num.El.img (L := Num.lvA O W J i) (by rw [← Num.tlL_step hi]; exact HV.out.ok i) _) (by omega)
      have HIL := Lib.hid hIl
      generalize Num.imgV O W J i (W.getD j []) = I at *
      clear hIl hR2 hb2 HC1 hPr rW B1 L
      have hRL : R.length = O.length := HRL.out
      have HSM : Hid (∀ W4 A4 c4, Below w2.drew.heap.size w2.drew W4 → RdI W4 A4 I → Calls Try.prog 99 #[.slice A2' O.length c2', .slice A4 O.length c4] W4 fun e w' => e = .returned (.bool (Num.bP O W J i j)) ∧ Below W4.heap.size W4 w') := Lib.hid fun W4 A4 c4 hb hR4 => by
        have hR2' : RdI W4 A2' R := (HR2.out.below' ((Below.refl _ _).drew)).below' hb
        have h := sSame_any (.slice A2' R.length c2') (.slice A4 I.length c4) R I W4 ⟨_, _, rfl, by rw [hRL]; unfold maxLen; omega, hR2'⟩ ⟨_, _, rfl, by rw [HIL.out]; unfold maxLen; omega, hR4⟩
        rw [hRL, HIL.out, HRE.out] at h
        exact h
      have B3 : Below W0.heap.size W0 w2.drew := B2.drew
      clear hRL HR2 HIL HRE HRL
      have HSX : Hid (∀ w', Below W0.heap.size W0 w' → Below w2.heap.size w2 w' → w'.cell? ⟨w.heap.size, 0, none⟩ = some (.slice (some ⟨gO, oO, none⟩) O.length c0) ∧ w'.cell? ⟨w.heap.size, 1, none⟩ = some (.slice (some ⟨gW, oW, none⟩) O.length c1) ∧ w'.cell? ⟨w.heap.size, 2, none⟩ = some (.slice (some ⟨gJ, oJ, none⟩) O.length c2) ∧ w'.cell? ⟨gW, oW + j, none⟩ = some (.slice BW O.length dW)) := Lib.hid fun w' hb hb2 => by
        obtain ⟨_, hP', z0, z1, z2, _⟩ := HPW.out _ hb
        exact ⟨z0, z1, z2, by rw [hb2.cell gWl]; exact cW⟩
      have D3 : Below w2.heap.size w2 w2.drew := (Below.refl _ _).drew
      cases hbp : Num.bP O W J i j with
      | true =>
        rw [hbp] at HSM
        have HQ : Hid (∀ k, i < k → k < j + 1 → Num.bP O W J i k = true) := Lib.hid fun k h1 h2 => by
          by_cases e : k = j
          · rw [e]; exact hbp
          · exact hq.out k h1 (by omega)
        clear hbp hq
        have hw3 : IntKind.i64.wrap ((j : Int) + 1) = (j : Int) + 1 := IntWalk.i64_in _ (by omega)
        go_wp2_with (fail)
        go_region_held3 (fun wx => wx.cell? ⟨w.heap.size, 0, none⟩ = some (.slice (some ⟨gO, oO, none⟩) O.length c0) ∧ wx.cell? ⟨w.heap.size, 1, none⟩ = some (.slice (some ⟨gW, oW, none⟩) O.length c1) ∧ wx.cell? ⟨w.heap.size, 2, none⟩ = some (.slice (some ⟨gJ, oJ, none⟩) O.length c2) ∧ wx.cell? ⟨gW, oW + j, none⟩ = some (.slice BW O.length dW)) (first | assumption | go_keep) (first
          | (go_at_call 138; (with_reducible refine HIM.out.mono ?_); rintro e w4 ⟨A4, c4, rfl, hR4, hb4⟩; have B4 := bstep B3 B3.size hb4; have D4 := bstep D3 D3.size hb4; have HS := Lib.hid (HSM.out _ _ c4 hb4 hR4); have SM4 := HSX.out _ B4 D4)
          | (go_at_call 99; (with_reducible refine HS.out.mono ?_); rintro e w5 ⟨rfl, hb5⟩; have B5 := bstep B4 B4.size hb5; have SM5 := HSX.out _ B5 (bstep D4 D4.size hb5)))
        clear HS hb5 B4 HIM HSM hR4 hb4 B3 B2 SM4 SM5 HSX D3 D4
        go_wp2_with (fail)
        exact ⟨⟨j + 1, by go_num, by omega, by omega, HQ, B5⟩, by simp [intOf]; omega⟩
      | false =>
        rw [hbp] at HSM
        have HE : Hid (Num.fltA O W J i = ⟨1, i, j, 0⟩) := Lib.hid (Num.fltA_P (by omega) hlt hbp hq.out)
        clear hbp hq
        go_wp2_with (fail)
        go_region_held3 (fun wx => wx.cell? ⟨w.heap.size, 0, none⟩ = some (.slice (some ⟨gO, oO, none⟩) O.length c0) ∧ wx.cell? ⟨w.heap.size, 1, none⟩ = some (.slice (some ⟨gW, oW, none⟩) O.length c1) ∧ wx.cell? ⟨w.heap.size, 2, none⟩ = some (.slice (some ⟨gJ, oJ, none⟩) O.length c2) ∧ wx.cell? ⟨gW, oW + j, none⟩ = some (.slice BW O.length dW)) (first | assumption | go_keep) (first
          | (go_at_call 138; (with_reducible refine HIM.out.mono ?_); rintro e w4 ⟨A4, c4, rfl, hR4, hb4⟩; have B4 := bstep B3 B3.size hb4; have D4 := bstep D3 D3.size hb4; have HS := Lib.hid (HSM.out _ _ c4 hb4 hR4); have SM4 := HSX.out _ B4 D4)
          | (go_at_call 99; (with_reducible refine HS.out.mono ?_); rintro e w5 ⟨rfl, hb5⟩; have B5 := bstep B4 B4.size hb5; have SM5 := HSX.out _ B5 (bstep D4 D4.size hb5)))
        obtain ⟨L5, hPr, y0, y1, y2, BFr⟩ := HPW.out _ B5
        obtain ⟨w9, e9, B9, L9⟩ := flt_store BFr (.int .i64 1) (.int .i64 (i : Int)) (.int .i64 (j : Int)) (.int .i64 0) (by omega : w.heap.size ≤ w.heap.size + 1) L5
        obtain ⟨bl9, f0, f1, f2, f3⟩ := BFr.c4
        obtain ⟨bl9', r0, r1, r2, r3⟩ := B9.c4
        have g0 := BFr.free 0
        have g1 := BFr.free 1
        have g2 := BFr.free 2
        have g3 := BFr.free 3
        have HB9 := Lib.hid B9
        clear HS hb5 B4 hPr HIM HSM hR4 hb4 B3 B2 B9 SM4 SM5 HSX D3 D4
        go_wp2_with (fail)
        refine bodyPost_ret (v := .agg #[.int .i64 1, .int .i64 (i : Int), .int .i64 (j : Int), .int .i64 0]) (by simp [results, Try.results154, go_sem, bl9', r0, r1, r2, r3]) rfl ?_
        exact ⟨by rw [HE.out]; rfl, L9⟩
    · obtain rfl : j = O.length := by omega
      have HQP : Hid (∀ k, i < k → k < O.length → Num.bP O W J i k = true) := Lib.hid hq.out
      clear hPr y0 y1 y2 BFr hq
      have hge : ¬ ((O.length : Int) < (O.length : Int)) := by omega
      go_wp2_with (fail)
      clear hge hlt hj hj0
      go_loopw [9, 10, 11, 12, 13] (fun s9 _ _ _ _ wr => ∃ j : Nat, s9 = .int .i64 (j : Int) ∧ i + 1 ≤ j ∧ j ≤ O.length ∧ Hid (∀ j' k, i < j' → j' < j → j' < k → k < O.length → Num.bC O W J i j' k = true) ∧ Below W0.heap.size W0 wr) (fun s9 _ _ _ _ _ => O.length - (intOf s9).toNat)
      case atStart => exact ⟨i + 1, by go_num, by omega, by omega, Lib.hid fun j' k h1 h2 => by omega, bel⟩
      case round =>
        clear bel L
        obtain ⟨j, rfl, hj0, hj, hq, bel⟩ := hrel
        by_cases hlt : j < O.length
        · have j1 : (j : Int) < (O.length : Int) := by omega
          have j0 : (0 : Int) ≤ (j : Int) := by omega
          have hwj : IntKind.i64.wrap ((j : Int) + 1) = (j : Int) + 1 := IntWalk.i64_in _ (by omega)
          go_wp2_with (fail)
          go_loopw [10, 11, 12, 13] (fun s10 _ _ _ wr => ∃ k : Nat, s10 = .int .i64 (k : Int) ∧ j + 1 ≤ k ∧ k ≤ O.length ∧ Hid (∀ k', j < k' → k' < k → Num.bC O W J i j k' = true) ∧ Below W0.heap.size W0 wr) (fun s10 _ _ _ _ => O.length - (intOf s10).toNat)
          case atStart => exact ⟨j + 1, by go_num, by omega, by omega, Lib.hid fun k h1 h2 => by omega, bel⟩
          case round =>
            clear bel
            obtain ⟨k, rfl, hk0, hk, hqk, bel⟩ := hrel
            obtain ⟨L, hPr, y0, y1, y2, BFr⟩ := HPW.out _ bel
            by_cases hlk : k < O.length
            · have k1 : (k : Int) < (O.length : Int) := by omega
              have iJ : (i : Int) < (J.length : Int) := by rw [HV.out.lj]; exact i1
              have jJ : (j : Int) < (J.length : Int) := by rw [HV.out.lj]; exact j1
              obtain ⟨p, hp⟩ : ∃ p, p = j - (i + 1) := ⟨_, rfl⟩
              obtain ⟨q, hq'⟩ : ∃ q, q = k - (i + 1) := ⟨_, rfl⟩
              obtain ⟨r, hr⟩ : ∃ r, r = k - (j + 1) := ⟨_, rfl⟩
              have pR : (p : Int) < ((J.getD i []).length : Int) := by rw [HV.out.lr i hi]; omega
              have qR : (q : Int) < ((J.getD i []).length : Int) := by rw [HV.out.lr i hi]; omega
              have rR : (r : Int) < ((J.getD j []).length : Int) := by rw [HV.out.lr j hlt]; omega
              have p0 : (0 : Int) ≤ (p : Int) := by omega
              have q0 : (0 : Int) ≤ (q : Int) := by omega
              have r0 : (0 : Int) ≤ (r : Int) := by omega
              have hw1 : IntKind.i64.wrap ((j : Int) - (i : Int)) = (j : Int) - (i : Int) := IntWalk.i64_in _ (by omega)
              have hw2 : IntKind.i64.wrap ((j : Int) - (i : Int) - 1) = (p : Int) := by rw [IntWalk.i64_in _ (by omega)]; omega
              have hw3 : IntKind.i64.wrap ((k : Int) - (i : Int)) = (k : Int) - (i : Int) := IntWalk.i64_in _ (by omega)
              have hw4 : IntKind.i64.wrap ((k : Int) - (i : Int) - 1) = (q : Int) := by rw [IntWalk.i64_in _ (by omega)]; omega
              have hw5 : IntKind.i64.wrap ((k : Int) - (j : Int)) = (k : Int) - (j : Int) := IntWalk.i64_in _ (by omega)
              have hw6 : IntKind.i64.wrap ((k : Int) - (j : Int) - 1) = (r : Int) := by rw [IntWalk.i64_in _ (by omega)]; omega
              have hwk : IntKind.i64.wrap ((k : Int) + 1) = (k : Int) + 1 := IntWalk.i64_in _ (by omega)
              obtain ⟨gJ, oJ, gR, oR, cR, BX', dX, rfl, cJ, cX, rX⟩ := cellC (i := i) (k := p) hPr.2.2 (by rw [HV.out.lj]; exact hi) (by rw [HV.out.lr i hi]; omega)
              obtain ⟨gJ', oJ', gR', oR', cR', BY, dY, e1, cJ', cY, rY⟩ := cellC (i := i) (k := q) hPr.2.2 (by rw [HV.out.lj]; exact hi) (by rw [HV.out.lr i hi]; omega)
              simp only [Option.some.injEq, Addr.mk.injEq, and_true] at e1
              obtain ⟨rfl, rfl⟩ := e1
              rw [cJ] at cJ'
              simp only [Option.some.injEq, Value.slice.injEq, Addr.mk.injEq, and_true] at cJ'
              obtain ⟨⟨rfl, rfl⟩, -, rfl⟩ := cJ'
              obtain ⟨gJ', oJ', gZ, oZ, cZ, BZ, dZ, e1, cJj, cZ', rZ⟩ := cellC (i := j) (k := r) hPr.2.2 (by rw [HV.out.lj]; exact hlt) (by rw [HV.out.lr j hlt]; omega)
              simp only [Option.some.injEq, Addr.mk.injEq, and_true] at e1
              obtain ⟨rfl, rfl⟩ := e1
              have lX : Hid (((J.getD i []).getD p []).length = O.length) := Lib.hid (HV.out.cl i p hi (by omega))
              have lY : Hid (((J.getD i []).getD q []).length = O.length) := Lib.hid (HV.out.cl i q hi (by omega))
              have lZ : Hid (((J.getD j []).getD r []).length = O.length) := Lib.hid (HV.out.cl j r hlt (by omega))
              rw [lX.out] at cX
              rw [lY.out] at cY
              rw [lZ.out] at cZ'
              have eX : Hid (∀ z, Num.El (Num.tlL O W J z) (((J.getD i []).getD p []).drop z)) := Lib.hid fun z => HV.out.ce i p z hi (by omega)
              have eY : Hid (∀ z, Num.El (Num.tlL O W J z) (((J.getD i []).getD q []).drop z)) := Lib.hid fun z => HV.out.ce i q z hi (by omega)
              have eZ : Hid (∀ z, Num.El (Num.tlL O W J z) (((J.getD j []).getD r []).drop z)) := Lib.hid fun z => HV.out.ce j r z hlt (by omega)
              have HBC : Hid (decide (Num.atV O W J (i + 1) ((J.getD i []).getD q []) ((J.getD i []).getD p []) = Num.atV O W J (i + 1) ((J.getD i []).getD p []) (Num.imgV O W J i ((J.getD j []).getD r []))) = Num.bC O W J i j k) := Lib.hid (by
                rw [Num.bC_at HV.out (by omega) (by omega) hlk]
                unfold Num.atV Num.imgV Num.cV
                rw [Num.pad_drop, ← hp, ← hq', ← hr]
                exact decide_eq_of Num.pad_inj)
              generalize (J.getD i []).getD p [] = X at *
              generalize (J.getD i []).getD q [] = Y at *
              generalize (J.getD j []).getD r [] = Z at *
              generalize (J.getD i []).length = nI at *
              generalize (J.getD j []).length = nJ at *
              clear hp hq' hr
              go_wp2_with (fail)
              go_quiet (fail)
              have B1 : Below W0.heap.size W0 (wr.drewN nq) := below_drewN bel nq
              have D1 : Below wr.heap.size wr (wr.drewN nq) := below_drewN (Below.refl _ _) nq
              replace rX := rX.below' D1
              replace rY := rY.below' D1
              replace rZ := rZ.below' D1
              replace cJj : (wr.drewN nq).cell? ⟨gJ, oJ + j, none⟩ = _ := cJj
              replace cZ' : (wr.drewN nq).cell? ⟨gZ, oZ + r, none⟩ = _ := cZ'
              clear hPr y0 y1 y2 BFr bel L cJ cX cY D1
              generalize hWQ : wr.drewN nq = wq at *
              clear hWQ
              obtain ⟨L, hPr, y0, y1, y2, BFr⟩ := HPW.out _ B1
              have HIM : Hid (∀ W', Below wq.heap.size wq W' → Calls Try.prog 138 #[.agg #[.slice A0 O.length c0, .slice A1 O.length c1, .slice (some ⟨gJ, oJ, none⟩) O.length c2], .int .i64 (i : Int), .slice BZ O.length dZ] W' (VecOut O (Num.imgV O W J i Z) W')) := Lib.hid fun W' hb =>
                HI.out W' Z BZ dZ ⟨hPr.1.below' hb, hPr.2.1.below' hb, hPr.2.2.below' hb⟩ (rZ.below' hb) lZ.out (eZ.out _)
              unfold VecOut at HIM
              have hIe : Num.El (Num.tlL O W J (i + 1)) ((Num.imgV O W J i Z).drop (i + 1)) := by unfold Num.imgV; rw [Num.pad_drop]; exact Num.El.img (L := Num.lvA O W J i) (by rw [← Num.tlL_step hi]; exact HV.out.ok i) _
              have lI : Hid ((Num.imgV O W J i Z).length = O.length) := Lib.hid (by
                have := hIe
                unfold Num.imgV at this
                rw [Num.pad_drop] at this
                exact Num.pad_len (HV.out.ok _) this (by omega))
              have eI := Lib.hid hIe
              clear hIe
              generalize Num.imgV O W J i Z = I at *
              go_wp2_with (fail)
              go_still_tail 13, (by kernel_rfl)
              change wpList _ _ _ _ _ wq.drew
              have HC1 := Lib.hid (HIM.out _ ((Below.refl _ _).drew))
              have B2 : Below W0.heap.size W0 wq.drew := B1.drew
              have rX2 : RdI wq.drew BX' X := rX.below' ((Below.refl _ _).drew)
              have rY2 : RdI wq.drew BY Y := rY.below' ((Below.refl _ _).drew)
              clear HIM cJj cZ' rZ rX rY hPr y0 y1 y2 BFr L B1
              generalize hWD : wq.drew = wd at *
              clear hWD
              go_wp2_with (fail)
              refine HC1.out.mono ?_; rintro e w3 ⟨A3, c3, rfl, hR3, hb3⟩
              have B3 := bstep B2 B2.size hb3
              have rX3 := rX2.below' hb3
              have rY3 := rY2.below' hb3
              obtain ⟨L, hPr, y0, y1, y2, BFr⟩ := HPW.out _ B3
              have HSX : Hid (∀ w', Below W0.heap.size W0 w' → w'.cell? ⟨w.heap.size, 0, none⟩ = some (.slice A0 O.length c0) ∧ w'.cell? ⟨w.heap.size, 1, none⟩ = some (.slice A1 O.length c1) ∧ w'.cell? ⟨w.heap.size, 2, none⟩ = some (.slice (some ⟨gJ, oJ, none⟩) O.length c2)) := Lib.hid fun w' hb => by
                obtain ⟨_, hP', z0, z1, z2, _⟩ := HPW.out _ hb
                exact ⟨z0, z1, z2⟩
              have HYX : Hid (∀ W', Below w3.heap.size w3 W' → Calls Try.prog 107 #[.agg #[.slice A0 O.length c0, .slice A1 O.length c1, .slice (some ⟨gJ, oJ, none⟩) O.length c2], .int .i64 ((i : Int) + 1), .slice BY O.length dY, .slice BX' O.length dX] W' (VecOut O (Num.atV O W J (i + 1) Y X) W')) := Lib.hid fun W' hb => by
                have := HA.out W' Y X BY BX' dY dX ⟨hPr.1.below' hb, hPr.2.1.below' hb, hPr.2.2.below' hb⟩ (rY3.below' hb) (rX3.below' hb) lY.out lX.out (eY.out _) (eX.out _)
                simpa using this
              have HXZ : Hid (∀ W', Below w3.heap.size w3 W' → Calls Try.prog 107 #[.agg #[.slice A0 O.length c0, .slice A1 O.length c1, .slice (some ⟨gJ, oJ, none⟩) O.length c2], .int .i64 ((i : Int) + 1), .slice BX' O.length dX, .slice A3 O.length c3] W' (VecOut O (Num.atV O W J (i + 1) X I) W')) := Lib.hid fun W' hb => by
                have := HA.out W' X I BX' A3 dX c3 ⟨hPr.1.below' hb, hPr.2.1.below' hb, hPr.2.2.below' hb⟩ (rX3.below' hb) (hR3.below' hb) lX.out lI.out (eX.out _) eI.out
                simpa using this
              have l1 : (Num.atV O W J (i + 1) Y X).length = O.length := Num.pad_len (HV.out.ok _) (Num.El.mul (HV.out.ok _) (eY.out _) (eX.out _)) (by omega)
              have l2 : (Num.atV O W J (i + 1) X I).length = O.length := Num.pad_len (HV.out.ok _) (Num.El.mul (HV.out.ok _) (eX.out _) eI.out) (by omega)
              have HSM : Hid (∀ W' A5 A6 c5 c6, Below w3.heap.size w3 W' → RdI W' A5 (Num.atV O W J (i + 1) Y X) → RdI W' A6 (Num.atV O W J (i + 1) X I) → Calls Try.prog 99 #[.slice A5 O.length c5, .slice A6 O.length c6] W' fun e w' => e = .returned (.bool (Num.bC O W J i j k)) ∧ Below W'.heap.size W' w') := Lib.hid fun W' A5 A6 c5 c6 _ h5 h6 => by
                have h := sSame_any (.slice A5 (Num.atV O W J (i + 1) Y X).length c5) (.slice A6 (Num.atV O W J (i + 1) X I).length c6) _ _ W' ⟨_, _, rfl, by rw [l1]; unfold maxLen; omega, h5⟩ ⟨_, _, rfl, by rw [l2]; unfold maxLen; omega, h6⟩
                rw [l1, l2, HBC.out] at h
                exact h
              have D4 : Below w3.heap.size w3 w3.drew := (Below.refl _ _).drew
              have B4 : Below W0.heap.size W0 w3.drew := B3.drew
              unfold VecOut at HYX HXZ
              have HYX1 := Lib.hid (HYX.out _ D4)
              have HXZ1 := Lib.hid (HXZ.out _ D4)
              clear HBC l1 l2 lI eI lX lY lZ eX eY eZ rX3 rY3 rX2 rY2 hR3 hb3 B2 HC1 hPr BFr
              cases hbp : Num.bC O W J i j k with
              | true =>
                rw [hbp] at HSM
                have HQ : Hid (∀ k', j < k' → k' < k + 1 → Num.bC O W J i j k' = true) := Lib.hid fun k' h1 h2 => by
                  by_cases e : k' = k
                  · rw [e]; exact hbp
                  · exact hqk.out k' h1 (by omega)
                clear hbp hqk
                go_wp2_with (fail)
                go_region_held3 (fun wx => wx.cell? ⟨w.heap.size, 0, none⟩ = some (.slice A0 O.length c0) ∧ wx.cell? ⟨w.heap.size, 1, none⟩ = some (.slice A1 O.length c1) ∧ wx.cell? ⟨w.heap.size, 2, none⟩ = some (.slice (some ⟨gJ, oJ, none⟩) O.length c2)) (first | assumption | go_keep) (first
                  | (go_at_call 99; (with_reducible refine HS.out.mono ?_); rintro e w8 ⟨rfl, hb8⟩; have BX := bstep B6 B6.size hb8; have SM8 := HSX.out _ BX)
                  | (go_at_call 107; (with_reducible refine HXZ2.out.mono ?_); rintro e w6 ⟨A6, c6, rfl, hR6, hb6⟩; have B6 := bstep B5 B5.size hb6; have D6 := bstep D5 D5.size hb6; have HS := Lib.hid (HSM.out w6 A5 A6 c5 c6 D6 (hR5.below' hb6) hR6); have SM6 := HSX.out _ B6)
                  | (go_at_call 107; (with_reducible refine HYX2.out.mono ?_); rintro e w6 ⟨A5, c5, rfl, hR5, hb6⟩; have B6 := bstep B5 B5.size hb6; have D6 := bstep D5 D5.size hb6; have HS := Lib.hid (HSM.out w6 A5 A6 c5 c6 D6 hR5 (hR6.below' hb6)); have SM6 := HSX.out _ B6)
                  | (go_at_call 107; (with_reducible refine HYX1.out.mono ?_); rintro e w5 ⟨A5, c5, rfl, hR5, hb5⟩; have B5 := bstep B4 B4.size hb5; have D5 := bstep D4 D4.size hb5; have HXZ2 := Lib.hid (HXZ.out _ D5); have SM5 := HSX.out _ B5)
                  | (go_at_call 107; (with_reducible refine HXZ1.out.mono ?_); rintro e w5 ⟨A6, c6, rfl, hR6, hb5⟩; have B5 := bstep B4 B4.size hb5; have D5 := bstep D4 D4.size hb5; have HYX2 := Lib.hid (HYX.out _ D5); have SM5 := HSX.out _ B5))

                all_goals
                  clear HS HYX HXZ HYX1 HXZ1 HSM SM5 SM6 SM8 HSX hR5 hR6 hb5 hb6 B4 B5 B6 D4 D5 D6
                  go_wp2_with (fail)
                  exact ⟨⟨k + 1, by go_num, by omega, by omega, HQ, BX⟩, by simp [intOf]; omega⟩
              | false =>
                rw [hbp] at HSM
                have HE : Hid (Num.fltA O W J i = ⟨2, i, j, k⟩) := Lib.hid (Num.fltA_C HQP.out (by omega) (by omega) hlk hbp hqk.out (fun j' h1 h2 k' h3 h4 => hq.out j' k' h1 h2 h3 h4))
                clear hbp hqk
                go_wp2_with (fail)
                go_region_held3 (fun wx => wx.cell? ⟨w.heap.size, 0, none⟩ = some (.slice A0 O.length c0) ∧ wx.cell? ⟨w.heap.size, 1, none⟩ = some (.slice A1 O.length c1) ∧ wx.cell? ⟨w.heap.size, 2, none⟩ = some (.slice (some ⟨gJ, oJ, none⟩) O.length c2)) (first | assumption | go_keep) (first
                  | (go_at_call 99; (with_reducible refine HS.out.mono ?_); rintro e w8 ⟨rfl, hb8⟩; have BX := bstep B6 B6.size hb8; have SM8 := HSX.out _ BX)
                  | (go_at_call 107; (with_reducible refine HXZ2.out.mono ?_); rintro e w6 ⟨A6, c6, rfl, hR6, hb6⟩; have B6 := bstep B5 B5.size hb6; have D6 := bstep D5 D5.size hb6; have HS := Lib.hid (HSM.out w6 A5 A6 c5 c6 D6 (hR5.below' hb6) hR6); have SM6 := HSX.out _ B6)
                  | (go_at_call 107; (with_reducible refine HYX2.out.mono ?_); rintro e w6 ⟨A5, c5, rfl, hR5, hb6⟩; have B6 := bstep B5 B5.size hb6; have D6 := bstep D5 D5.size hb6; have HS := Lib.hid (HSM.out w6 A5 A6 c5 c6 D6 hR5 (hR6.below' hb6)); have SM6 := HSX.out _ B6)
                  | (go_at_call 107; (with_reducible refine HYX1.out.mono ?_); rintro e w5 ⟨A5, c5, rfl, hR5, hb5⟩; have B5 := bstep B4 B4.size hb5; have D5 := bstep D4 D4.size hb5; have HXZ2 := Lib.hid (HXZ.out _ D5); have SM5 := HSX.out _ B5)
                  | (go_at_call 107; (with_reducible refine HXZ1.out.mono ?_); rintro e w5 ⟨A6, c6, rfl, hR6, hb5⟩; have B5 := bstep B4 B4.size hb5; have D5 := bstep D4 D4.size hb5; have HYX2 := Lib.hid (HYX.out _ D5); have SM5 := HSX.out _ B5))

                all_goals
                  clear HS HYX HXZ HYX1 HXZ1 HSM SM5 SM6 SM8 HSX hR5 hR6 hb5 hb6 B4 B5 B6 D4 D5 D6 y0 y1 y2
                  obtain ⟨L5, hPr, y0, y1, y2, BFr⟩ := HPW.out _ BX
                  obtain ⟨w9, e9, B9, L9⟩ := flt_store BFr (.int .i64 2) (.int .i64 (i : Int)) (.int .i64 (j : Int)) (.int .i64 (k : Int)) (by omega : w.heap.size ≤ w.heap.size + 1) L5
                  obtain ⟨bl9, f0, f1, f2, f3⟩ := BFr.c4
                  obtain ⟨bl9', r0, r1, r2, r3⟩ := B9.c4
                  have g0 := BFr.free 0
                  have g1 := BFr.free 1
                  have g2 := BFr.free 2
                  have g3 := BFr.free 3
                  have HB9 := Lib.hid B9
                  clear hPr B9
                  go_wp2_with (fail)
                  refine bodyPost_ret (v := .agg #[.int .i64 2, .int .i64 (i : Int), .int .i64 (j : Int), .int .i64 (k : Int)]) (by simp [results, Try.results154, go_sem, bl9', r0, r1, r2, r3]) rfl ?_
                  exact ⟨by rw [HE.out]; rfl, L9⟩

            · obtain rfl : k = O.length := by omega
              have HQ : Hid (∀ j' k, i < j' → j' < j + 1 → j' < k → k < O.length → Num.bC O W J i j' k = true) := Lib.hid fun j' k' h1 h2 h3 h4 => by
                by_cases e : j' = j
                · rw [e]; exact hqk.out k' (by omega) h4
                · exact hq.out j' k' h1 (by omega) h3 h4
              have hge : ¬ ((O.length : Int) < (O.length : Int)) := by omega
              clear hqk hPr BFr y0 y1 y2
              go_wp2_with (fail)
              exact ⟨⟨j + 1, by go_num, by omega, by omega, HQ, bel⟩, by simp [intOf]; omega⟩
        · obtain rfl : j = O.length := by omega
          have HQC : Hid (∀ j k, i < j → j < k → k < O.length → Num.bC O W J i j k = true) := Lib.hid fun j k h1 h2 h3 => hq.out j k h1 (by omega) h2 h3
          have hge : ¬ ((O.length : Int) < (O.length : Int)) := by omega
          clear hq
          clear hge hlt hj hj0
          obtain ⟨L, hPr, y0, y1, y2, BFr⟩ := HPW.out _ bel
          have iW : (i : Int) < (W.length : Int) := by rw [HV.out.lw]; exact i1
          obtain ⟨gW, oW, BW, dW, rfl, gWl, cW, rW⟩ := cellV (j := i) hPr.2.1 (by rw [HV.out.lw]; exact hi)
          rw [HV.out.wl i hi] at cW
          have lW : Hid ((W.getD i []).length = O.length) := Lib.hid (HV.out.wl i hi)
          have eW : Hid (∀ z, Num.El (Num.tlL O W J z) ((W.getD i []).drop z)) := Lib.hid fun z => HV.out.we i z hi
          have HWI : Hid (Num.lvA O W J i = Num.lvA O W J i ∧ Num.bF O W J i = decide (Num.imgV O W J i (W.getD i []) = W.getD i [])) := Lib.hid ⟨rfl, by
            rw [Num.bF_at]
            have e : W.getD i [] = Num.zer (i + 1) ++ (W.getD i []).drop (i + 1) := by
              have := Num.drop_pad (v := W.getD i []) (i := 0) (z := i + 1) (fun z hz => HV.out.wz i z hi (by omega)) (by rw [lW.out]; omega) (by omega)
              simpa using this
            have e2 : (Num.imgV O W J i (W.getD i []) = W.getD i []) ↔ (Num.imgL (Num.lvA O W J i) (Num.tlL O W J (i + 1)) ((W.getD i []).drop (i + 1)) = (W.getD i []).drop (i + 1)) := by
              have h2 : (Num.imgV O W J i (W.getD i []) = W.getD i []) ↔ (Num.zer (i + 1) ++ Num.imgL (Num.lvA O W J i) (Num.tlL O W J (i + 1)) ((W.getD i []).drop (i + 1)) = Num.zer (i + 1) ++ (W.getD i []).drop (i + 1)) := by rw [← e]; rfl
              exact h2.trans Num.pad_inj
            exact decide_eq_of e2.symm⟩
          have HBI : Hid (∀ j, i < j → j < O.length → Num.bI O W J i j = decide (Num.atV O W J (i + 1) (W.getD i []) (Num.zer (i + 1) ++ Num.iter (Num.imgL (Num.lvA O W J i) (Num.tlL O W J (i + 1))) (O.getD i 0).toNat ((Num.unit7 O.length j).drop (i + 1))) = Num.atV O W J (i + 1) (Num.unit7 O.length j) (W.getD i []))) := Lib.hid fun j h1 h2 => by
            rw [Num.bI_at h1 h2]
            unfold Num.atV
            rw [Num.pad_drop]
            exact decide_eq_of Num.pad_inj.symm
          have HIM : Hid (∀ W', Below wr.heap.size wr W' → Calls Try.prog 138 #[.agg #[.slice A0 O.length c0, .slice (some ⟨gW, oW, none⟩) O.length c1, .slice A2 O.length c2], .int .i64 (i : Int), .slice BW O.length dW] W' (VecOut O (Num.imgV O W J i (W.getD i [])) W')) := Lib.hid fun W' hb =>
            HI.out W' (W.getD i []) BW dW ⟨hPr.1.below' hb, hPr.2.1.below' hb, hPr.2.2.below' hb⟩ (rW.below' hb) lW.out (eW.out _)
          unfold VecOut at HIM
          have lI : Hid ((Num.imgV O W J i (W.getD i [])).length = O.length) := Lib.hid (Num.pad_len (HV.out.ok _) (Num.El.img (L := Num.lvA O W J i) (by rw [← Num.tlL_step hi]; exact HV.out.ok i) _) (by omega))
          have HC1 := Lib.hid (HIM.out _ (Below.refl _ _))
          have HOI := HV.out.ob i hi
          generalize hIg : Num.imgV O W J i (W.getD i []) = I at *
          generalize hWg : W.getD i [] = U at *
          clear HIM hIg hWg
          go_wp2_with (fail)
          refine HC1.out.mono ?_; rintro e w3 ⟨A3, c3, rfl, hR3, hb3⟩
          have B3 := bstep bel bel.size hb3
          have rW3 := rW.below' hb3
          have HS := Lib.hid (sSame_any (.slice A3 I.length c3) (.slice BW U.length dW) I U w3 ⟨_, _, rfl, by rw [lI.out]; unfold maxLen; omega, hR3⟩ ⟨_, _, rfl, by rw [lW.out]; unfold maxLen; omega, rW3⟩)
          rw [lI.out, lW.out, ← HWI.out.2] at HS
          clear HWI lI hR3 HC1 hPr y0 y1 y2 BFr L bel rW cW
          cases hbf : Num.bF O W J i with
          | false =>
            rw [hbf] at HS
            have HE : Hid (Num.fltA O W J i = ⟨3, i, 0, 0⟩) := Lib.hid (Num.fltA_F HQP.out HQC.out hbf)
            clear hbf
            go_wp2_with (fail)
            refine HS.out.mono ?_; rintro e w4 ⟨rfl, hb4⟩
            have BX := bstep B3 B3.size hb4
            clear HS B3 hb3 hb4 rW3
            obtain ⟨L5, hPr, y0, y1, y2, BFr⟩ := HPW.out _ BX
            obtain ⟨w9, e9, B9, L9⟩ := flt_store BFr (.int .i64 3) (.int .i64 (i : Int)) (.int .i64 0) (.int .i64 0) (by omega : w.heap.size ≤ w.heap.size + 1) L5
            obtain ⟨bl9, f0, f1, f2, f3⟩ := BFr.c4
            obtain ⟨bl9', r0, r1, r2, r3⟩ := B9.c4
            have g0 := BFr.free 0
            have g1 := BFr.free 1
            have g2 := BFr.free 2
            have g3 := BFr.free 3
            have HB9 := Lib.hid B9
            clear hPr B9
            go_wp2_with (fail)
            refine bodyPost_ret (v := .agg #[.int .i64 3, .int .i64 (i : Int), .int .i64 0, .int .i64 0]) (by simp [results, Try.results154, go_sem, bl9', r0, r1, r2, r3]) rfl ?_
            exact ⟨by rw [HE.out]; rfl, L9⟩

          | true =>
            rw [hbf] at HS
            have HBF := Lib.hid hbf
            clear hbf
            go_wp2_with (fail)
            refine HS.out.mono ?_; rintro e w4 ⟨rfl, hb4⟩
            have bel := bstep B3 B3.size hb4
            have bel4 : Below w4.heap.size w4 w4 := Below.refl _ _
            have HRW : Hid (RdI w4 BW U) := Lib.hid (rW3.below' hb4)
            clear HS B3 hb3 hb4 rW3
            go_wp2_with (fail)
            go_loopw [15, 16, 17, 18] (fun s15 _ _ _ wr => ∃ j : Nat, s15 = .int .i64 (j : Int) ∧ i + 1 ≤ j ∧ j ≤ O.length ∧ Hid (∀ k, i < k → k < j → Num.bI O W J i k = true) ∧ Below w4.heap.size w4 wr) (fun s15 _ _ _ _ => O.length - (intOf s15).toNat)
            case atStart => exact ⟨i + 1, by go_num, by omega, by omega, Lib.hid fun k h1 h2 => by omega, bel4⟩
            case round =>
              clear bel4
              obtain ⟨j, rfl, hj0, hj, hq, bel4⟩ := hrel
              have B4 := bstep bel bel.size bel4
              by_cases hlt : j < O.length
              · have j1 : (j : Int) < (O.length : Int) := by omega
                have hwj : IntKind.i64.wrap ((j : Int) + 1) = (j : Int) + 1 := IntWalk.i64_in _ (by omega)
                have HU := Lib.hid (sUnit_any O.length j wr (by omega) hlt)
                have HBJ := Lib.hid (HBI.out j (by omega) hlt)
                have lG : Hid ((Num.unit7 O.length j).length = O.length) := Lib.hid (Num.unit7_len _ _)
                have eG : Hid (∀ z, Num.El (Num.tlL O W J z) ((Num.unit7 O.length j).drop z)) := Lib.hid fun z => Num.bI_El HV.out hlt
                generalize Num.unit7 O.length j = G at *
                generalize hHO : O.getD i 0 = oi at *
                have HOG := Lib.hid hHO
                clear hHO
                go_wp2_with (fail)
                refine HU.out.mono ?_; rintro e w5 ⟨u5, rfl, ow5, hb5⟩
                obtain ⟨A5, n5, c5, rfl, e5⟩ := ow5.formN
                obtain rfl : O.length = n5 := by rw [← e5]; exact lG.out.symm
                have HRG : Hid (RdI w5 A5 G) := Lib.hid ow5.reads
                have B5 := bstep B4 B4.size hb5
                have bel5 := bstep bel4 bel4.size hb5
                clear HU ow5 hb5 e5 bel4 B4
                go_wp2_with (fail)
                go_loopw [17, 18] (fun s17 s18 wr => ∃ (t : Int) (u : List Int) (A : Option Addr) (c : Nat), s18 = .int .i64 t ∧ s17 = .slice A O.length c ∧ 0 ≤ t ∧ t ≤ oi ∧ Hid (RdI wr A u) ∧ Hid (u.length = O.length) ∧ Hid (Num.El (Num.tlL O W J (i + 1)) (u.drop (i + 1))) ∧
                  Hid (Num.iter (Num.imgL (Num.lvA O W J i) (Num.tlL O W J (i + 1))) (oi - t).toNat (u.drop (i + 1)) = Num.iter (Num.imgL (Num.lvA O W J i) (Num.tlL O W J (i + 1))) oi.toNat (G.drop (i + 1))) ∧ Below w5.heap.size w5 wr) (fun _ s18 _ => (oi - intOf s18).toNat)
                case atStart => exact ⟨0, G, A5, c5, rfl, rfl, by omega, by omega, HRG, lG, Lib.hid (eG.out _), Lib.hid (by rw [Int.sub_zero]), Below.refl _ _⟩
                case round =>
                  obtain ⟨t, u, A, c, rfl, rfl, ht0, ht, hR, hL, hE, hT, bl5⟩ := hrel
                  have B6 := bstep B5 B5.size bl5
                  obtain ⟨L, hPr, y0, y1, y2, BFr⟩ := HPW.out _ B6
                  obtain ⟨gO, oO, rfl, hgO, cO⟩ := hPr.1 i hi
                  have hHOg : O.getD i 0 = oi := HOG.out
                  rw [hHOg] at cO
                  clear hHOg
                  by_cases htl : t < oi
                  · have HC := Lib.hid (HI.out wr u A c hPr hR.out hL.out hE.out)
                    unfold VecOut at HC
                    have HE2 : Hid (Num.El (Num.tlL O W J (i + 1)) ((Num.imgV O W J i u).drop (i + 1))) := Lib.hid (by unfold Num.imgV; rw [Num.pad_drop]; exact Num.El.img (L := Num.lvA O W J i) (by rw [← Num.tlL_step hi]; exact HV.out.ok i) _)
                    have HL2' : Hid ((Num.imgV O W J i u).length = O.length) := Lib.hid (by
                      have := HE2.out
                      unfold Num.imgV at this
                      rw [Num.pad_drop] at this
                      exact Num.pad_len (HV.out.ok _) this (by omega))
                    have HT2 : Hid (Num.iter (Num.imgL (Num.lvA O W J i) (Num.tlL O W J (i + 1))) (oi - (t + 1)).toNat ((Num.imgV O W J i u).drop (i + 1)) = Num.iter (Num.imgL (Num.lvA O W J i) (Num.tlL O W J (i + 1))) oi.toNat (G.drop (i + 1))) := Lib.hid (by
                      rw [← hT.out, show (oi - t).toNat = (oi - (t + 1)).toNat + 1 by omega, Num.iter]
                      unfold Num.imgV
                      rw [Num.pad_drop])
                    have hw3 : IntKind.i64.wrap (t + 1) = t + 1 := IntWalk.i64_in _ (by omega)
                    generalize Num.imgV O W J i u = l2 at *
                    clear hT hE hL hR hPr BFr
                    go_wp2_with (fail)
                    refine HC.out.mono ?_; rintro e w7 ⟨A7, c7, rfl, hR7, hb7⟩
                    have HR7 := Lib.hid hR7
                    have L7 := bstep bl5 bl5.size hb7
                    clear hR7 hb7 HC
                    go_wp2_with (fail)
                    exact ⟨⟨t + 1, l2, A7, c7, rfl, rfl, by omega, by omega, HR7, HL2', HE2, HT2, L7⟩, by simp [intOf]; omega⟩
                  · have HTT : Hid (u.drop (i + 1) = Num.iter (Num.imgL (Num.lvA O W J i) (Num.tlL O W J (i + 1))) oi.toNat (G.drop (i + 1))) := Lib.hid (by
                      rw [← hT.out, show (oi - t).toNat = 0 by omega]; rfl)
                    have bw := bstep bel5 bel5.size bl5
                    have rU := HRW.out.below' bw
                    have rG := HRG.out.below' bl5
                    have HSX : Hid (∀ w', Below W0.heap.size W0 w' → w'.cell? ⟨w.heap.size, 0, none⟩ = some (.slice (some ⟨gO, oO, none⟩) O.length c0) ∧ w'.cell? ⟨w.heap.size, 1, none⟩ = some (.slice (some ⟨gW, oW, none⟩) O.length c1) ∧ w'.cell? ⟨w.heap.size, 2, none⟩ = some (.slice A2 O.length c2)) := Lib.hid fun w' hb => by
                      obtain ⟨_, hP', z0, z1, z2, _⟩ := HPW.out _ hb
                      exact ⟨z0, z1, z2⟩
                    have HYX : Hid (∀ W', Below wr.heap.size wr W' → Calls Try.prog 107 #[.agg #[.slice (some ⟨gO, oO, none⟩) O.length c0, .slice (some ⟨gW, oW, none⟩) O.length c1, .slice A2 O.length c2], .int .i64 ((i : Int) + 1), .slice BW O.length dW, .slice A O.length c] W' (VecOut O (Num.atV O W J (i + 1) U u) W')) := Lib.hid fun W' hb => by
                      have := HA.out W' U u BW A dW c ⟨hPr.1.below' hb, hPr.2.1.below' hb, hPr.2.2.below' hb⟩ (rU.below' hb) (hR.out.below' hb) lW.out hL.out (eW.out _) hE.out
                      simpa using this
                    have HXZ : Hid (∀ W', Below wr.heap.size wr W' → Calls Try.prog 107 #[.agg #[.slice (some ⟨gO, oO, none⟩) O.length c0, .slice (some ⟨gW, oW, none⟩) O.length c1, .slice A2 O.length c2], .int .i64 ((i : Int) + 1), .slice A5 O.length c5, .slice BW O.length dW] W' (VecOut O (Num.atV O W J (i + 1) G U) W')) := Lib.hid fun W' hb => by
                      have := HA.out W' G U A5 BW c5 dW ⟨hPr.1.below' hb, hPr.2.1.below' hb, hPr.2.2.below' hb⟩ (rG.below' hb) (rU.below' hb) lG.out lW.out (eG.out _) (eW.out _)
                      simpa using this
                    have l1 : (Num.atV O W J (i + 1) U u).length = O.length := Num.pad_len (HV.out.ok _) (Num.El.mul (HV.out.ok _) (eW.out _) hE.out) (by omega)
                    have l2 : (Num.atV O W J (i + 1) G U).length = O.length := Num.pad_len (HV.out.ok _) (Num.El.mul (HV.out.ok _) (eG.out _) (eW.out _)) (by omega)
                    have hBJ : decide (Num.atV O W J (i + 1) U u = Num.atV O W J (i + 1) G U) = Num.bI O W J i j := by
                      rw [HBJ.out]
                      unfold Num.atV
                      rw [Num.pad_drop, HTT.out]
                    have HSM : Hid (∀ W' A5 A6 c5 c6, Below wr.heap.size wr W' → RdI W' A5 (Num.atV O W J (i + 1) U u) → RdI W' A6 (Num.atV O W J (i + 1) G U) → Calls Try.prog 99 #[.slice A5 O.length c5, .slice A6 O.length c6] W' fun e w' => e = .returned (.bool (Num.bI O W J i j)) ∧ Below W'.heap.size W' w') := Lib.hid fun W' A5 A6 c5 c6 _ h5 h6 => by
                      have h := sSame_any (.slice A5 (Num.atV O W J (i + 1) U u).length c5) (.slice A6 (Num.atV O W J (i + 1) G U).length c6) _ _ W' ⟨_, _, rfl, by rw [l1]; unfold maxLen; omega, h5⟩ ⟨_, _, rfl, by rw [l2]; unfold maxLen; omega, h6⟩
                      rw [l1, l2, hBJ] at h
                      exact h
                    have D4 : Below wr.heap.size wr wr.drew := (Below.refl _ _).drew
                    have B4 : Below W0.heap.size W0 wr.drew := B6.drew
                    have bw4 := bw.drew
                    unfold VecOut at HYX HXZ
                    have HYX1 := Lib.hid (HYX.out _ D4)
                    have HXZ1 := Lib.hid (HXZ.out _ D4)
                    clear hBJ l1 l2 rU rG HTT hT hE hL hR hPr BFr bl5 B6
                    cases hbp : Num.bI O W J i j with
                    | true =>
                      rw [hbp] at HSM
                      have HQ : Hid (∀ k, i < k → k < j + 1 → Num.bI O W J i k = true) := Lib.hid fun k' h1 h2 => by
                        by_cases e : k' = j
                        · rw [e]; exact hbp
                        · exact hq.out k' h1 (by omega)
                      clear hbp hq
                      go_wp2_with (fail)
                      go_region_held3 (fun wx => wx.cell? ⟨w.heap.size, 0, none⟩ = some (.slice (some ⟨gO, oO, none⟩) O.length c0) ∧ wx.cell? ⟨w.heap.size, 1, none⟩ = some (.slice (some ⟨gW, oW, none⟩) O.length c1) ∧ wx.cell? ⟨w.heap.size, 2, none⟩ = some (.slice A2 O.length c2)) (first | assumption | go_keep) (first
                        | (go_at_call 99; (with_reducible refine HS.out.mono ?_); rintro e w8 ⟨rfl, hb8⟩; have BX := bstep B6 B6.size hb8; have SM8 := HSX.out _ BX)
                        | (go_at_call 107; (with_reducible refine HXZ2.out.mono ?_); rintro e w6 ⟨A6, c6, rfl, hR6, hb6⟩; have B6 := bstep B5 B5.size hb6; have D6 := bstep D5 D5.size hb6; have HS := Lib.hid (HSM.out w6 A5 A6 c5 c6 D6 (hR5.below' hb6) hR6); have SM6 := HSX.out _ B6)
                        | (go_at_call 107; (with_reducible refine HYX2.out.mono ?_); rintro e w6 ⟨A5, c5, rfl, hR5, hb6⟩; have B6 := bstep B5 B5.size hb6; have D6 := bstep D5 D5.size hb6; have HS := Lib.hid (HSM.out w6 A5 A6 c5 c6 D6 hR5 (hR6.below' hb6)); have SM6 := HSX.out _ B6)
                        | (go_at_call 107; (with_reducible refine HYX1.out.mono ?_); rintro e w5 ⟨A5, c5, rfl, hR5, hb5⟩; have B5 := bstep B4 B4.size hb5; have D5 := bstep D4 D4.size hb5; have HXZ2 := Lib.hid (HXZ.out _ D5); have SM5 := HSX.out _ B5)
                        | (go_at_call 107; (with_reducible refine HXZ1.out.mono ?_); rintro e w5 ⟨A6, c6, rfl, hR6, hb5⟩; have B5 := bstep B4 B4.size hb5; have D5 := bstep D4 D4.size hb5; have HYX2 := Lib.hid (HYX.out _ D5); have SM5 := HSX.out _ B5))

                      all_goals
                        have bx4 := (bstep bw bw.size D6).trans (hb8.mono (Nat.le_trans bw.size D6.size))
                        clear HS HYX HXZ HYX1 HXZ1 HSM SM5 SM6 SM8 HSX hR5 hR6 hb5 hb6 B4 B5 B6 D4 D5 D6
                        go_wp2_with (fail)
                        exact ⟨⟨j + 1, by go_num, by omega, by omega, HQ, bx4⟩, by simp [intOf]; omega⟩
                    | false =>
                      rw [hbp] at HSM
                      have HE : Hid (Num.fltA O W J i = ⟨4, i, j, 0⟩) := Lib.hid (Num.fltA_I HQP.out HQC.out HBF.out (by omega) hlt hbp hq.out)
                      clear hbp hq
                      go_wp2_with (fail)
                      go_region_held3 (fun wx => wx.cell? ⟨w.heap.size, 0, none⟩ = some (.slice (some ⟨gO, oO, none⟩) O.length c0) ∧ wx.cell? ⟨w.heap.size, 1, none⟩ = some (.slice (some ⟨gW, oW, none⟩) O.length c1) ∧ wx.cell? ⟨w.heap.size, 2, none⟩ = some (.slice A2 O.length c2)) (first | assumption | go_keep) (first
                        | (go_at_call 99; (with_reducible refine HS.out.mono ?_); rintro e w8 ⟨rfl, hb8⟩; have BX := bstep B6 B6.size hb8; have SM8 := HSX.out _ BX)
                        | (go_at_call 107; (with_reducible refine HXZ2.out.mono ?_); rintro e w6 ⟨A6, c6, rfl, hR6, hb6⟩; have B6 := bstep B5 B5.size hb6; have D6 := bstep D5 D5.size hb6; have HS := Lib.hid (HSM.out w6 A5 A6 c5 c6 D6 (hR5.below' hb6) hR6); have SM6 := HSX.out _ B6)
                        | (go_at_call 107; (with_reducible refine HYX2.out.mono ?_); rintro e w6 ⟨A5, c5, rfl, hR5, hb6⟩; have B6 := bstep B5 B5.size hb6; have D6 := bstep D5 D5.size hb6; have HS := Lib.hid (HSM.out w6 A5 A6 c5 c6 D6 hR5 (hR6.below' hb6)); have SM6 := HSX.out _ B6)
                        | (go_at_call 107; (with_reducible refine HYX1.out.mono ?_); rintro e w5 ⟨A5, c5, rfl, hR5, hb5⟩; have B5 := bstep B4 B4.size hb5; have D5 := bstep D4 D4.size hb5; have HXZ2 := Lib.hid (HXZ.out _ D5); have SM5 := HSX.out _ B5)
                        | (go_at_call 107; (with_reducible refine HXZ1.out.mono ?_); rintro e w5 ⟨A6, c6, rfl, hR6, hb5⟩; have B5 := bstep B4 B4.size hb5; have D5 := bstep D4 D4.size hb5; have HYX2 := Lib.hid (HYX.out _ D5); have SM5 := HSX.out _ B5))

                      all_goals
                        clear HS HYX HXZ HYX1 HXZ1 HSM SM5 SM6 SM8 HSX hR5 hR6 hb5 hb6 B4 B5 B6 D4 D5 D6 y0 y1 y2
                        obtain ⟨L5, hPr, y0, y1, y2, BFr⟩ := HPW.out _ BX
                        obtain ⟨w9, e9, B9, L9⟩ := flt_store BFr (.int .i64 4) (.int .i64 (i : Int)) (.int .i64 (j : Int)) (.int .i64 0) (by omega : w.heap.size ≤ w.heap.size + 1) L5
                        obtain ⟨bl9, f0, f1, f2, f3⟩ := BFr.c4
                        obtain ⟨bl9', r0, r1, r2, r3⟩ := B9.c4
                        have g0 := BFr.free 0
                        have g1 := BFr.free 1
                        have g2 := BFr.free 2
                        have g3 := BFr.free 3
                        have HB9 := Lib.hid B9
                        clear hPr B9
                        go_wp2_with (fail)
                        refine bodyPost_ret (v := .agg #[.int .i64 4, .int .i64 (i : Int), .int .i64 (j : Int), .int .i64 0]) (by simp [results, Try.results154, go_sem, bl9', r0, r1, r2, r3]) rfl ?_
                        exact ⟨by rw [HE.out]; rfl, L9⟩

              · obtain rfl : j = O.length := by omega
                have HE : Hid (Num.fltA O W J i = ⟨0, 0, 0, 0⟩) := Lib.hid (Num.fltA_0 HQP.out HQC.out HBF.out hq.out)
                have hge : ¬ ((O.length : Int) < (O.length : Int)) := by omega
                have BX := B4
                clear hq
                obtain ⟨L5, hPr, y0, y1, y2, BFr⟩ := HPW.out _ BX
                obtain ⟨w9, e9, B9, L9⟩ := flt_store BFr (.int .i64 0) (.int .i64 0) (.int .i64 0) (.int .i64 0) (by omega : w.heap.size ≤ w.heap.size + 1) L5
                obtain ⟨bl9, f0, f1, f2, f3⟩ := BFr.c4
                obtain ⟨bl9', r0, r1, r2, r3⟩ := B9.c4
                have g0 := BFr.free 0
                have g1 := BFr.free 1
                have g2 := BFr.free 2
                have g3 := BFr.free 3
                have HB9 := Lib.hid B9
                clear hPr B9
                go_wp2_with (fail)
                refine bodyPost_ret (v := .agg #[.int .i64 0, .int .i64 0, .int .i64 0, .int .i64 0]) (by simp [results, Try.results154, go_sem, bl9', r0, r1, r2, r3]) rfl ?_
                exact ⟨by rw [HE.out]; rfl, L9⟩

end Go.Proofs.Yteappjgdcbploaa
