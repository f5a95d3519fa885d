/- Products of tables and diagonals, of the program. -/
import Derived.Test.YtihdidbikeaafaaL08A
import Derived.Test.YtihdidbikeaafaaApZ
namespace Go.Proofs.Ytihdidbikeaafaa
open Go.RowKit
set_option linter.unusedVariables false
set_option linter.unusedSimpArgs false

/-- What 'make' of a row leaves. -/
theorem made_zeros {w2 : World} {B n : Nat} (own2 : w2.ownsRow B 101 1 (.slice (some ⟨B, 0, none⟩) n n) n (madeCells (Value.int IntKind.i64 0).cells (n * 1)).toList) :
    spZ.own w2 (fun k => k = B) (.slice (some ⟨B, 0, none⟩) n n) (List.replicate n 0) :=
  ⟨by
    have e := zeros_ints n
    simp only [List.length_replicate]
    rw [← e]
    exact ownsRow_base own2 (Nat.zero_le _), fun k hk => by simp [Value.ownBlock] at hk; exact hk.symm, fun k hk => by rw [hk]; exact (World.ownsRow.lt own2 _ rfl).2⟩
set_option maxRecDepth 100000 in
set_option maxHeartbeats 2000000 in
theorem integerProduct_any (n p q : Nat) (v1 v2 : Value) (X R : List (List Int)) (w : World) (h1 : spZZ.rd w v1 X) (h2 : spZZ.rd w v2 R)
    (hn : n ≤ 100) (hR0 : 0 < R.length) (hR1 : R.length ≤ 100) (hX1 : X.length ≤ 100) (hl : ∀ i, i < X.length → (X.getD i []).length = R.length) (hr : ∀ j, j < R.length → (R.getD j []).length = n)
    (b1 : ∀ i, Num.BdN p (X.getD i [])) (b2 : ∀ j, Num.BdN q (R.getD j [])) (b3 : 100 * (p * q) + p * q ≤ 4611686018427387904) :
    Calls Try.prog 59 #[v1, v2] w (Made spZZ (Num.mulZ n R.length X R) w) := by
  obtain ⟨i0, hi0, hz00, hz10, hz20⟩ := info_parts infoZ
  obtain ⟨i1, hi1, hz01, hz11, hz21⟩ := info_parts infoZZ
  obtain ⟨A1, c1, e1⟩ : ∃ A c, v1 = .slice A X.length c := by obtain ⟨A2, c2, e, -⟩ := h1; exact ⟨A2, c2, e⟩
  subst e1
  obtain ⟨g2, o2, u2, e2, hg2, hc2, hru⟩ : ∃ g o u, (∃ c, v2 = .slice (some ⟨g, o, none⟩) R.length c) ∧ g < w.heap.size ∧ w.cell? ⟨g, o, none⟩ = some u ∧ spZ.rd w u (R.getD 0 []) := by
    obtain ⟨A2, c2, e, hm, hh⟩ := h2
    obtain ⟨g, o, u, e3, e4, e5, e6⟩ := hh 0 hR0
    subst e3
    exact ⟨g, o, u, ⟨c2, e⟩, e4, e5, e6⟩
  obtain ⟨c2, rfl⟩ := e2
  obtain ⟨B0, d0, rfl, -, -⟩ := spZ_form hru
  have hrow0 := hr 0 hR0
  rw [hrow0] at hc2
  have HX := Lib.hid h1
  have HR := Lib.hid h2
  have HLX := Lib.hid hl
  have HLR := Lib.hid hr
  have HB1 := Lib.hid b1
  have HB2 := Lib.hid b2
  have HML : Hid ((Num.mulZ n R.length X R).length = X.length) := Lib.hid (Num.mulZ_len _ _ _ _)
  have HMG : Hid (∀ i, i < X.length → (Num.mulZ n R.length X R).getD i [] = Num.rowZ n (X.getD i []) R (X.getD i []).length) := Lib.hid fun i hi => by rw [Num.mulZ_get hi, hl i hi]
  have j2 : (0 : Int) < (R.length : Int) := by omega
  clear h1 h2 hl hr b1 b2 hru hrow0
  generalize Num.mulZ n R.length X R = M at *
  go_enter Try.func59, Try.ntmps59
  go_wp2_with (first
    | (refine wpList_make_full _ rfl (.tmp 10) (.tmp 10) 68 rfl w.heap.size 93 i1 (.slice none 0 0) 1 Try.underlying68 hi1 hz01 hz11 .i64 .i64 (X.length : Int) (X.length : Int) X.length rfl rfl rfl rfl (by rw [hz21]; omega) (by unfold maxLen; omega) (by first | exact Nat.le_refl _ | (simp; omega) | omega) ?_; intro w1 own1 gr1; have b1 : Below w.heap.size w w1 := (Below.refl _ _).grown gr1 (Nat.le_refl _) (fun k hk => by simp at hk); have hs1 : w.heap.size + 1 ≤ w1.heap.size := (World.ownsRow.lt own1 _ rfl).2; have hc21 : w1.cell? ⟨g2, o2, none⟩ = some (.slice B0 n d0) := (by rw [b1.cell hg2]; exact hc2))
    | (refine wpList_make_full _ rfl (.tmp 15) (.tmp 15) 93 rfl w1.heap.size 101 i0 (.int .i64 0) 1 Try.underlying93 hi0 hz00 hz10 .i64 .i64 (n : Int) (n : Int) n rfl rfl rfl rfl (by rw [hz20]; omega) (by unfold maxLen; omega) (by first | exact Nat.le_refl _ | (simp; omega) | omega) ?_; intro w2 own2 gr2))
  have b2 : Below w1.heap.size w1 w2 := (Below.refl _ _).grown gr2 (Nat.le_refl _) (fun k hk => by simp at hk)
  have L2 := bstep b1 b1.size b2
  have own3 : w2.ownsRow w.heap.size 93 1 (.slice (some ⟨w.heap.size, 0, none⟩) X.length X.length) X.length _ := World.ownsRow.kept own1 gr2 (.inr (by simp [Value.ownBlock]))
  have OZ : Hid (spZ.own w2 (fun k => k = w1.heap.size) (.slice (some ⟨w1.heap.size, 0, none⟩) n n) (List.replicate n 0)) := Lib.hid ⟨by
    have e := zeros_ints n
    simp only [List.length_replicate]
    rw [← e]
    exact ownsRow_base own2 (Nat.zero_le _), fun k hk => by simp [Value.ownBlock] at hk; exact hk.symm, fun k hk => by rw [hk]; exact (World.ownsRow.lt own2 _ rfl).2⟩
  have CT : Hid (CopyTo 93 spZ [] w.heap.size w2 (.slice (some ⟨w.heap.size, 0, none⟩) X.length X.length) M 0) := Lib.hid ⟨_, fun _ _ => False, by rw [HML.out]; exact own3, fun i hi => by omega, fun i j _ hj => by omega, fun i hi => by omega⟩
  clear own1 own2 own3 gr1 gr2 b1 b2 hc2 hc21
  go_wp2_with (fail)
  go_loopw [19] (fun s wr => ∃ j : Nat, s = .int .i64 j ∧ j ≤ X.length ∧ Hid (CopyTo 93 spZ [] w.heap.size wr (.slice (some ⟨w.heap.size, 0, none⟩) X.length X.length) M j) ∧ Hid (spZ.own wr (fun k => k = w1.heap.size) (.slice (some ⟨w1.heap.size, 0, none⟩) n n) (List.replicate n 0)) ∧ Below w.heap.size w wr) (fun s _ => X.length - (intOf s).toNat)
  case atStart => exact ⟨0, rfl, by omega, CT, OZ, L2⟩
  case round =>
    obtain ⟨j, rfl, hj, HCT, HOZ, bw⟩ := hrel
    clear CT OZ
    by_cases hlt : j < X.length
    · obtain ⟨g, o, u, rfl, hg, hc, hru⟩ := spL_row (spZZ.rd_below HX.out bw) hlt
      have j0 : (0 : Int) ≤ (j : Int) := by omega
      have j1 : (j : Int) < (X.length : Int) := by omega
      have HRP := Lib.hid (rowProductZ_any n p q (.slice (some ⟨w1.heap.size, 0, none⟩) n n) u (.slice (some ⟨g2, o2, none⟩) R.length c2) (X.getD j []) R wr (spZ.own_rd HOZ.out) hru (spZZ.rd_below HR.out bw) (by omega) (HLX.out j hlt) (by rw [HLX.out j hlt]; exact hR1) HLR.out (HB1.out j) HB2.out b3)
      rw [← HMG.out j hlt] at HRP
      have bws := bw.size
      clear hru
      go_wp2_with (fail)
      refine HRP.out.mono ?_; rintro e w3 ⟨u3, S3, rfl, ow3, hS3, hb3⟩
      obtain ⟨A3, c3, e3, -, -⟩ := spZ.own_rd ow3
      subst e3
      obtain ⟨⟨ov, hov⟩, hfz, st1, st2, hzz⟩ := HCT.out.step (by rw [HML.out]; exact hlt) hb3 ow3 hS3
      have ozb := spZ.own_below HOZ.out hb3
      have hw1 : ¬ (w.heap.size = w1.heap.size) := by omega
      generalize (M.getD j []).length = n3 at *
      have oz3 := Lib.hid (spZ.own_set ozb (p := ⟨w.heap.size, j, none⟩) hw1 (.slice A3 n3 c3))
      have bel2 := (bw.trans (hb3.mono bw.size)).grown st2 (by have := hb3.size; omega) (fun k hk => by simp at hk; omega)
      have HST := Lib.hid st1
      clear st1 st2 ow3 hS3 hb3 HRP ozb
      go_wp2_with (fail)
      exact ⟨⟨j + 1, by go_num, by omega, HST, oz3, bel2⟩, by simp [intOf]; omega⟩
    · obtain rfl : j = X.length := by omega
      have hge : ¬ ((X.length : Int) < (X.length : Int)) := by omega
      have HD : Hid (spZZ.own wr (fun k => w.heap.size ≤ k ∧ k < wr.heap.size) (.slice (some ⟨w.heap.size, 0, none⟩) X.length X.length) M) := Lib.hid (by
        have h := HCT.out
        rw [← HML.out] at h ⊢
        exact h.done)
      clear HCT
      go_wp2_with (fail)
      go_ret
      exact Made.of rfl HD.out (fun k hk => hk.1) bw
set_option maxRecDepth 100000 in
set_option maxHeartbeats 2000000 in
theorem isDiagonal_any (v1 v2 : Value) (X : List (List Int)) (d : List Int) (w : World) (h1 : spZZ.rd w v1 X) (h2 : spI.rd w v2 d) (hX : X.length ≤ 100) (hd : ∀ i, i < X.length → d.length ≤ (X.getD i []).length) (hl : ∀ i, i < X.length → (X.getD i []).length ≤ 100) :
    Calls Try.prog 61 #[v1, v2] w (RetB (Num.diagB X d) w) := by
  obtain ⟨i0, hi0, hz00, hz10, hz20⟩ := info_parts infoZ
  obtain ⟨A1, c1, e1⟩ : ∃ A c, v1 = .slice A X.length c := by obtain ⟨A2, c2, e, -⟩ := h1; exact ⟨A2, c2, e⟩
  subst e1
  obtain ⟨A2, c2, rfl, -, hd0⟩ := h2
  have HX := Lib.hid h1
  have HD := Lib.hid hd0
  have HDL := Lib.hid hd
  have HLX := Lib.hid hl
  have HBAD : Hid (∀ i, i < X.length → ¬ X.getD i [] = Num.wantZ (X.getD i []).length i d → Num.diagB X d = false) := Lib.hid fun i hi => Num.diagB_bad hi
  have HOK : Hid ((∀ i, i < X.length → X.getD i [] = Num.wantZ (X.getD i []).length i d) → Num.diagB X d = true) := Lib.hid Num.diagB_ok
  clear h1 hd0 hd hl
  show Calls _ _ _ _ fun e w' => e = .returned (.bool (Num.diagB X d)) ∧ Below w.heap.size w w'
  go_enter Try.func61, Try.ntmps61
  go_wp2_with (fail)
  go_loopw [10] (fun s wr => ∃ j : Nat, s = .int .i64 j ∧ j ≤ X.length ∧ Hid (∀ i, i < j → X.getD i [] = Num.wantZ (X.getD i []).length i d) ∧ Below w.heap.size w wr) (fun s _ => X.length - (intOf s).toNat)
  case atStart => exact ⟨0, rfl, by omega, Lib.hid (fun i hi => by omega), Below.refl _ _⟩
  case round =>
    obtain ⟨j, rfl, hj, HP, bw⟩ := hrel
    by_cases hlt : j < X.length
    · obtain ⟨g, o, u, rfl, hg, hc, hru⟩ := spL_row (spZZ.rd_below HX.out bw) hlt
      obtain ⟨B, cB, e, hmB, hrB⟩ := spZ_form hru
      subst e
      have j0 : (0 : Int) ≤ (j : Int) := by omega
      have j1 : (j : Int) < (X.length : Int) := by omega
      have hnl := HLX.out j hlt
      have hdl := HDL.out j hlt
      have HBJ := Lib.hid (HBAD.out j hlt)
      have HPJ : Hid (X.getD j [] = Num.wantZ (X.getD j []).length j d → ∀ i, i < j + 1 → X.getD i [] = Num.wantZ (X.getD i []).length i d) := Lib.hid fun he i hi => by
        by_cases e : i = j
        · rw [e]; exact he
        · exact HP.out i (by omega)
      have HRB : Hid (spI.rd wr (.slice B (X.getD j []).length cB) (X.getD j [])) := Lib.hid ⟨B, cB, rfl, hmB, hrB⟩
      have bws := bw.size
      clear hru hrB hmB HP
      generalize hXJ : X.getD j [] = x at *
      have HXJ := Lib.hid hXJ
      clear hXJ
      by_cases hjd : j < d.length
      · obtain ⟨g5, o5, rfl, hg5, hc5⟩ := (HD.out.below' bw) j hjd
        have k1 : (j : Int) < (d.length : Int) := by omega
        have k2 : (j : Int) < (x.length : Int) := by omega
        have HW : Hid (Num.wantZ x.length j d = (List.replicate x.length 0).set j (d.getD j 0)) := Lib.hid (if_pos hjd)
        generalize d.getD j 0 = D at *
        go_wp2_with (first
          | (refine wpList_make_full _ rfl (.tmp 16) (.tmp 16) 93 rfl wr.heap.size 101 i0 (.int .i64 0) 1 Try.underlying93 hi0 hz00 hz10 .i64 .i64 (x.length : Int) (x.length : Int) x.length rfl rfl rfl rfl (by rw [hz20]; omega) (by unfold maxLen; omega) (by first | exact Nat.le_refl _ | (simp; omega) | omega) ?_; intro w2 own2 gr2; have b2 : Below wr.heap.size wr w2 := (Below.refl _ _).grown gr2 (Nat.le_refl _) (fun k hk => by simp at hk); have hg52 : w2.cell? ⟨g5, o5 + j, none⟩ = some (.int .i64 D) := (by rw [b2.cell hg5]; exact hc5); have oz := made_zeros own2; obtain ⟨g7, c7, -, hS7, hl7, hov, hfz⟩ := spZ_own_at oz (j := j) (by simp; omega); have hS8 : g7 = wr.heap.size := hS7; subst hS8; have oz2 := spZ_set oz (j := j) (by simp; omega) D; have bel3 : Below w.heap.size w (w2.setCell ⟨wr.heap.size, j, none⟩ (.int .i64 D)) := (bw.trans (b2.mono bw.size)).setCell bw.size _; have HO := Lib.hid oz2; have HR2 := Lib.hid (spI.rd_below HRB.out (b2.setCell (p := ⟨wr.heap.size, j, none⟩) (Nat.le_refl _) (.int .i64 D))); clear oz oz2 gr2 own2 b2))
        have HWR := Lib.hid (spZ.own_rd HO.out)
        clear HO
        have HEQ := Lib.hid (equalZ_any (.slice B x.length cB) (.slice (some ⟨wr.heap.size, 0, none⟩) x.length x.length) x ((List.replicate x.length 0).set j D) _ HR2.out HWR.out)
        clear HR2 HWR
        by_cases he : x = (List.replicate x.length 0).set j D
        · rw [decide_eq_true he] at HEQ
          have HP2 := Lib.hid (HPJ.out (he.trans HW.out.symm))
          clear he HPJ HBJ
          go_wp2_with (fail)
          refine HEQ.out.mono ?_; rintro e w5 ⟨rfl, hb5⟩
          have LZ := bstep bel3 bel3.size hb5
          clear HEQ
          go_wp2_with (fail)
          exact ⟨⟨j + 1, by go_num, by omega, HP2, LZ⟩, by simp [intOf]; omega⟩
        · rw [decide_eq_false he] at HEQ
          have HR := Lib.hid (HBJ.out (fun h => he (h.trans HW.out)))
          clear he HPJ HBJ
          go_wp2_with (fail)
          refine HEQ.out.mono ?_; rintro e w5 ⟨rfl, hb5⟩
          have LZ := bstep bel3 bel3.size hb5
          clear HEQ
          go_wp2_with (fail)
          go_ret
          exact ⟨ret_b HR.out.symm, LZ⟩
      · have k1 : ¬ ((j : Int) < (d.length : Int)) := by omega
        have HW : Hid (Num.wantZ x.length j d = List.replicate x.length 0) := Lib.hid (if_neg hjd)
        go_wp2_with (first
          | (refine wpList_make_full _ rfl (.tmp 16) (.tmp 16) 93 rfl wr.heap.size 101 i0 (.int .i64 0) 1 Try.underlying93 hi0 hz00 hz10 .i64 .i64 (x.length : Int) (x.length : Int) x.length rfl rfl rfl rfl (by rw [hz20]; omega) (by unfold maxLen; omega) (by first | exact Nat.le_refl _ | (simp; omega) | omega) ?_; intro w2 own2 gr2; have b2 : Below wr.heap.size wr w2 := (Below.refl _ _).grown gr2 (Nat.le_refl _) (fun k hk => by simp at hk); have oz := made_zeros own2; have bel3 : Below w.heap.size w w2 := bw.trans (b2.mono bw.size); have HO := Lib.hid oz; have HR2 := Lib.hid (spI.rd_below HRB.out b2); clear oz gr2 own2 b2))
        have HWR := Lib.hid (spZ.own_rd HO.out)
        clear HO
        have HEQ := Lib.hid (equalZ_any (.slice B x.length cB) (.slice (some ⟨wr.heap.size, 0, none⟩) x.length x.length) x (List.replicate x.length 0) _ HR2.out HWR.out)
        clear HR2 HWR
        by_cases he : x = List.replicate x.length 0
        · rw [decide_eq_true he] at HEQ
          have HP2 := Lib.hid (HPJ.out (he.trans HW.out.symm))
          clear he HPJ HBJ
          go_wp2_with (fail)
          refine HEQ.out.mono ?_; rintro e w5 ⟨rfl, hb5⟩
          have LZ := bstep bel3 bel3.size hb5
          clear HEQ
          go_wp2_with (fail)
          exact ⟨⟨j + 1, by go_num, by omega, HP2, LZ⟩, by simp [intOf]; omega⟩
        · rw [decide_eq_false he] at HEQ
          have HR := Lib.hid (HBJ.out (fun h => he (h.trans HW.out)))
          clear he HPJ HBJ
          go_wp2_with (fail)
          refine HEQ.out.mono ?_; rintro e w5 ⟨rfl, hb5⟩
          have LZ := bstep bel3 bel3.size hb5
          clear HEQ
          go_wp2_with (fail)
          go_ret
          exact ⟨ret_b HR.out.symm, LZ⟩
    · obtain rfl : j = X.length := by omega
      have hge : ¬ ((X.length : Int) < (X.length : Int)) := by omega
      have HR := Lib.hid (HOK.out HP.out)
      go_wp2_with (fail)
      go_ret
      exact ⟨ret_b HR.out.symm, bw⟩
end Go.Proofs.Ytihdidbikeaafaa
