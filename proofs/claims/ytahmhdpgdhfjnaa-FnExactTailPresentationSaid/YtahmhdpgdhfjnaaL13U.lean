/- TailPresentation of the model. -/
import Derived.Test.YtahmhdpgdhfjnaaL13S
import Derived.Test.YtahmhdpgdhfjnaaL13T
import Derived.Test.YtahmhdpgdhfjnaaL11B
import Derived.Handy
namespace Go.Proofs.Ytahmhdpgdhfjnaa
open Go.RowKit
set_option linter.unusedVariables false
set_option linter.unusedSimpArgs false

set_option maxRecDepth 100000 in
set_option maxHeartbeats 4000000 in
theorem sTailPresentation_ok (v0 : Value) (p : Pres) (I : Int) (w : World) (h0 : PresK w v0 p) (s0 : spPres.sz p ≤ 1048576) : Calls Try.prog 28 #[v0, .int .i64 I] w (MadeC spPres (rTailPresentation p I) (cTailPresentation p I) w) := by
  obtain ⟨O, W, J⟩ := p
  have h0' := h0
  obtain ⟨A0, c0, A1, c1, A2, c2, rfl, ⟨hO, hW, hJ⟩, m0, m1, m2, hc0⟩ := h0
  replace hO : RdI w A0 O := hO
  replace hW : RdWK w A1 W := hW
  replace hJ : RdXM w A2 J := hJ
  replace hc0 : O.length ≤ c0 := hc0
  simp only at h0' m0 ⊢
  have b0 : Below w.heap.size w ((w.alloc (.cells #[.slice A0 O.length c0, .slice A1 W.length c1, .slice A2 J.length c2] 28)).alloc (.cells #[.slice none 0 0, .slice none 0 0, .slice none 0 0] 28)) := by go_grown
  have BX := (Blk.new w [.slice A0 O.length c0, .slice A1 W.length c1, .slice A2 J.length c2] 28).alloc (.cells #[.slice none 0 0, .slice none 0 0, .slice none 0 0] 28)
  have BR : Blk ((w.alloc (.cells #[.slice A0 O.length c0, .slice A1 W.length c1, .slice A2 J.length c2] 28)).alloc (.cells #[.slice none 0 0, .slice none 0 0, .slice none 0 0] 28)) (w.heap.size + 1) [.slice none 0 0, .slice none 0 0, .slice none 0 0] 28 := by
    have := Blk.new (w.alloc (.cells #[.slice A0 O.length c0, .slice A1 W.length c1, .slice A2 J.length c2] 28)) [.slice none 0 0, .slice none 0 0, .slice none 0 0] 28
    simpa using this
  have HI := Lib.hid (sIsPres_any _ ⟨O, W, J⟩ _ (spPres.rd_below h0'.rd b0))
  have hz2 : ((w.alloc (.cells #[.slice A0 O.length c0, .slice A1 W.length c1, .slice A2 J.length c2] 28)).alloc (.cells #[.slice none 0 0, .slice none 0 0, .slice none 0 0] 28)).heap.size = w.heap.size + 2 := by simp
  generalize hW0 : ((w.alloc (.cells #[.slice A0 O.length c0, .slice A1 W.length c1, .slice A2 J.length c2] 28)).alloc (.cells #[.slice none 0 0, .slice none 0 0, .slice none 0 0] 28)) = W0 at *
  obtain ⟨bl, x0, x1, x2⟩ := BX.c3
  obtain ⟨br, r0, r1, r2⟩ := BR.c3
  obtain ⟨f0, f1, f2⟩ := BR.f3
  unfold RetB at HI
  cases hk : Pres.ok ⟨O, W, J⟩ with
  | true =>
    rw [hk] at HI
    have hpre : Num.preB O W J = true := hk
    have V := Num.Shp9.of hpre
    have h6 := V.n6
    by_cases hI : 0 ≤ I ∧ I ≤ (O.length : Int)
    · obtain ⟨i, rfl⟩ := Int.eq_ofNat_of_zero_le hI.1
      have hin : i ≤ O.length := by omega
      have hc : Pres.tpC ⟨O, W, J⟩ (i : Int) = 0 := by unfold Pres.tpC; rw [if_pos hk, if_pos hI]
      have HR : Hid (rTailPresentation ⟨O, W, J⟩ (i : Int) = partP O W J i O.length ∧ cTailPresentation ⟨O, W, J⟩ (i : Int) = 0) := Lib.hid ⟨if_pos hc, hc⟩
      have HPO : Hid (∀ W', Below w.heap.size w W' → _) := Lib.hid fun W' hb => sTail_any A0 A1 A2 c0 c1 c2 i O W J W' (hO.below' hb) (hW.below' hb) (hJ.below' hb) V hin hc0
      have HCNT := Lib.hid (partP_cnt V (a := i) (Nat.le_refl O.length))
      have HT := Lib.hid (sIn_yes (i : Int) 0 (O.length : Int) · hI.1 hI.2)
      clear hO hW hJ hpre hk hI hc h0' V
      generalize partP O W J i O.length = y at *
      go_enter Try.func28, Try.ntmps28
      go_wp2_with (fail)
      clear hW0
      refine HI.out.mono ?_; rintro e w1 ⟨rfl, hb1⟩
      have L1 := bstep b0 b0.size hb1
      have BX1 := BX.below hb1
      have BR1 := BR.below hb1
      obtain ⟨bl1, y0, y1, y2⟩ := BX1.c3
      clear HI x0 x1 x2 bl br r0 r1 r2 f0 f1 f2
      go_wp2_with (fail)
      refine (HT.out w1).mono ?_; rintro e w2 ⟨rfl, rfl⟩
      have hb2 := Below.refl w1.heap.size w1
      have L2 := bstep L1 L1.size hb2
      have hsz := hb1.size
      have hsz2 := hb2.size
      obtain ⟨bl2, z0, z1, z2⟩ := (BX1.below hb2).c3
      have BR2 := BR1.below hb2
      have HC2 := Lib.hid (HPO.out w1 L2)
      clear HT HPO y0 y1 y2
      go_wp2_with (fail)
      refine HC2.out.mono ?_; rintro e w3 ⟨v, S, rfl, own, hS, hb3⟩
      have L3 := bstep L2 L2.size hb3
      obtain ⟨B0, n0, d0, B1, n1, d1, B2, n2, d2, rfl, -, -, -⟩ := spPres_form (spPres.own_rd own)
      have BR3 := BR2.below hb3
      obtain ⟨br, r0, r1, r2⟩ := BR3.c3
      obtain ⟨f0, f1, f2⟩ := BR3.f3
      have HOWN := Lib.hid own
      clear own HC2 BR1 BR2
      go_wp2_with (fail)
      refine bodyPost_ret (v := .tuple #[.agg #[.slice B0 n0 d0, .slice B1 n1 d1, .slice B2 n2 d2], .int .i64 0]) (by simp [results, Try.results28, go_sem, br, r0, r1, r2]) rfl ?_
      rw [HR.out.1, HR.out.2]
      exact madeC_set HOWN.out (fun k hk => by have := hS k hk; omega) HCNT.out L3 (by omega) _ _ _ _
    · have hc : Pres.tpC ⟨O, W, J⟩ I = 2 := by unfold Pres.tpC; rw [if_pos hk, if_neg hI]
      have HR : Hid (rTailPresentation ⟨O, W, J⟩ I = noPres ∧ cTailPresentation ⟨O, W, J⟩ I = 2) := Lib.hid ⟨by unfold rTailPresentation; rw [if_neg (by rw [hc]; omega)], hc⟩
      have hI2 : I < 0 ∨ (O.length : Int) < I := by omega
      have HT := Lib.hid (sIn_no I 0 (O.length : Int) · hI2)
      clear hO hW hJ hpre hk hI hI2 hc h0' V
      go_enter Try.func28, Try.ntmps28
      go_wp2_with (fail)
      clear hW0
      refine HI.out.mono ?_; rintro e w1 ⟨rfl, hb1⟩
      have L1 := bstep b0 b0.size hb1
      obtain ⟨bl1, y0, y1, y2⟩ := (BX.below hb1).c3
      have BR1 := BR.below hb1
      clear HI x0 x1 x2 bl br r0 r1 r2 f0 f1 f2
      go_wp2_with (fail)
      refine (HT.out w1).mono ?_; rintro e w2 ⟨rfl, rfl⟩
      have hb2 := Below.refl w1.heap.size w1
      have L2 := bstep L1 L1.size hb2
      have BR2 := BR1.below hb2
      obtain ⟨br, r0, r1, r2⟩ := BR2.c3
      obtain ⟨f0, f1, f2⟩ := BR2.f3
      go_wp2_with (fail)
      refine bodyPost_ret (v := .tuple #[.agg #[.slice none 0 0, .slice none 0 0, .slice none 0 0], .int .i64 2]) (by simp [results, Try.results28, go_sem, br, r0, r1, r2]) rfl ?_
      rw [HR.out.1, HR.out.2]
      exact noPres_set' L2 (by omega) _ _ _ _
  | false =>
    rw [hk] at HI
    have hc : Pres.tpC ⟨O, W, J⟩ I = 1 := by unfold Pres.tpC; rw [if_neg (by rw [hk]; simp)]
    have HR : Hid (rTailPresentation ⟨O, W, J⟩ I = noPres ∧ cTailPresentation ⟨O, W, J⟩ I = 1) := Lib.hid ⟨by unfold rTailPresentation; rw [if_neg (by rw [hc]; omega)], hc⟩
    clear hO hW hJ hk hc h0'
    go_enter Try.func28, Try.ntmps28
    go_wp2_with (fail)
    clear hW0
    refine HI.out.mono ?_; rintro e w1 ⟨rfl, hb1⟩
    have L1 := bstep b0 b0.size hb1
    have BR1 := BR.below hb1
    clear HI x0 x1 x2 bl br r0 r1 r2 f0 f1 f2
    obtain ⟨br, r0, r1, r2⟩ := BR1.c3
    obtain ⟨f0, f1, f2⟩ := BR1.f3
    go_wp2_with (fail)
    refine bodyPost_ret (v := .tuple #[.agg #[.slice none 0 0, .slice none 0 0, .slice none 0 0], .int .i64 1]) (by simp [results, Try.results28, go_sem, br, r0, r1, r2]) rfl ?_
    rw [HR.out.1, HR.out.2]
    exact noPres_set' L1 (by omega) _ _ _ _
end Go.Proofs.Ytahmhdpgdhfjnaa
