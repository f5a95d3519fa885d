/- Rows and products of tables of the model. -/
import Derived.Test.YtihdidbikeaafaaL08B
import Derived.Deep.AppendLies
import Derived.Deep.RegionLaw
namespace Go.Proofs.Ytihdidbikeaafaa
open Go.RowKit
set_option linter.unusedVariables false
set_option linter.unusedSimpArgs false

set_option maxRecDepth 100000 in
set_option maxHeartbeats 1000000 in
theorem sMinus_any (p q r : Nat) (c : Int) (v u : Value) (xs ys : List Int) (Q : Int) (w : World) (h : spI.rd w v xs) (hu : spI.rd w u ys) (hl : ys.length = xs.length) (hx : xs.length ≤ 1000) (hQ : Q = -c)
    (b1 : Num.BdN p xs) (b2 : c.natAbs ≤ q) (b3 : Num.BdN r ys) (b4 : p + q * r ≤ 4611686018427387904) :
    Calls Try.prog 90 #[v, .int .i64 Q, u] w fun e w' => ∃ y, e = .returned y ∧ OwnI w' w.heap.size y (Num.addZ c xs ys) ∧ Below w.heap.size w w' := by
  obtain ⟨i0, hi, hz0, hz1, hz2⟩ := info_parts infoI
  obtain ⟨A, cA, rfl, mA, hA⟩ := h
  obtain ⟨B, cB, rfl, mB, hB⟩ := hu
  have HRA := Lib.hid hA
  have HRB := Lib.hid hB
  have HLEN := Lib.hid hl
  have HBD : Hid (∀ i, -4611686018427387904 ≤ Q * ys.getD i 0 ∧ Q * ys.getD i 0 ≤ 4611686018427387904 ∧ -4611686018427387904 ≤ xs.getD i 0 - Q * ys.getD i 0 ∧ xs.getD i 0 - Q * ys.getD i 0 ≤ 4611686018427387904 ∧ xs.getD i 0 - Q * ys.getD i 0 = Num.addZF c xs ys i) := Lib.hid fun i => by
    obtain ⟨e1, e2⟩ := Num.addZF_bd b1 b2 b3 i
    have e3 : Q * ys.getD i 0 = -(c * ys.getD i 0) := by rw [hQ, Int.neg_mul]
    rw [e3]
    unfold Num.addZF at e2 ⊢
    generalize q * r = N at *
    generalize c * ys.getD i 0 = X at *
    omega
  have HUZ : Hid (∀ j, j < xs.length → (Num.upto (Num.addZF c xs ys) (List.replicate xs.length 0) j).set j (Num.addZF c xs ys j) = Num.upto (Num.addZF c xs ys) (List.replicate xs.length 0) (j + 1)) := Lib.hid fun j hj => Num.upto_step _ _ (by simpa using hj)
  have HUL : Hid (∀ j, (Num.upto (Num.addZF c xs ys) (List.replicate xs.length 0) j).length = xs.length) := Lib.hid fun j => by rw [Num.upto_length]; simp
  have HU0 : Hid (Num.upto (Num.addZF c xs ys) (List.replicate xs.length 0) 0 = List.replicate xs.length 0) := Lib.hid (Num.upto_zero _ _)
  have HUA : Hid (Num.upto (Num.addZF c xs ys) (List.replicate xs.length 0) xs.length = Num.addZ c xs ys) := Lib.hid (by have := Num.upto_all (Num.addZF c xs ys) (List.replicate xs.length 0); rw [List.length_replicate] at this; exact this)
  generalize Num.upto (Num.addZF c xs ys) (List.replicate xs.length 0) = UP at *
  clear hA hB hl hQ b1 b2 b3 b4 mA mB
  go_enter Try.func90, Try.ntmps90
  go_wp2_with (refine wpList_make_full _ rfl (.tmp 10) (.tmp 10) 25 rfl w.heap.size 2 i0 (.int .i64 0) 1 Try.underlying25 hi hz0 hz1 .i64 .i64 (xs.length : Int) (xs.length : Int) xs.length rfl rfl rfl rfl (by rw [hz2]; omega) (by unfold maxLen; omega) (Nat.le_refl _) ?_; intro w1 own1 gr1)
  have L1 : Below w.heap.size w w1 := (Below.refl _ _).grown gr1 (Nat.le_refl _) (fun k hk => by simp at hk)
  have O1 : Hid (OwnI w1 w.heap.size (.slice (some ⟨w.heap.size, 0, none⟩) xs.length xs.length) (UP 0)) := Lib.hid (by
    rw [HU0.out]
    unfold OwnI
    have e := zeros_ints xs.length
    simp only [List.length_replicate]
    rw [← e]
    exact own1)
  clear own1 gr1
  go_wp2_with (fail)
  go_loopw [8] (fun s wr => ∃ j : Nat, s = .int .i64 j ∧ j ≤ xs.length ∧ Hid (OwnI wr w.heap.size (.slice (some ⟨w.heap.size, 0, none⟩) xs.length xs.length) (UP j)) ∧ Below w.heap.size w wr) (fun s _ => xs.length - (intOf s).toNat)
  case atStart => exact ⟨0, rfl, by omega, O1, L1⟩
  case round =>
    obtain ⟨j, rfl, hj, HO, bw⟩ := hrel
    clear O1 L1
    by_cases hlt : j < xs.length
    · obtain ⟨g, o, rfl, hg, hc⟩ := (HRA.out.below' bw) j hlt
      obtain ⟨g', o', rfl, hg', hc'⟩ := (HRB.out.below' bw) j (by have := HLEN.out; omega)
      obtain ⟨ha, hf⟩ := HO.out.at_ j (by rw [HUL.out]; exact hlt)
      have i0' : (0 : Int) ≤ (j : Int) := by omega
      have i1 : (j : Int) < (xs.length : Int) := by omega
      have i2 : (j : Int) < (ys.length : Int) := by have := HLEN.out; omega
      obtain ⟨m1, m2, m3, m4, m5⟩ := HBD.out j
      have HST : Hid ((UP j).set j (xs.getD j 0 - Q * ys.getD j 0) = UP (j + 1)) := Lib.hid (by rw [m5]; exact HUZ.out j hlt)
      clear m5
      generalize xs.getD j 0 = x at *
      generalize ys.getD j 0 = y at *
      generalize (UP j).getD j 0 = z at *
      have O2 := HO.out.set (w := wr) j (x - Q * y)
      rw [HST.out] at O2
      have O3 : Hid (OwnI (wr.drew.setCell ⟨w.heap.size, j, none⟩ (.int .i64 (x - Q * y))) w.heap.size (.slice (some ⟨w.heap.size, 0, none⟩) xs.length xs.length) (UP (j + 1))) := Lib.hid O2
      have bel3 : Below w.heap.size w (wr.drew.setCell ⟨w.heap.size, j, none⟩ (.int .i64 (x - Q * y))) := (bw.drew).setCell (Nat.le_refl _) _
      clear O2
      go_wp2_with (fail)
      go_region_law (fail)
      all_goals
        go_wp2_with (fail)
        exact ⟨⟨j + 1, by go_num, by omega, O3, bel3⟩, by simp [intOf]; omega⟩
    · obtain rfl : j = xs.length := by omega
      have hge : ¬ ((xs.length : Int) < (xs.length : Int)) := by omega
      rw [HUA.out] at HO
      go_wp2_with (fail)
      go_ret
      exact ⟨_, rfl, HO.out, bw⟩
set_option maxRecDepth 100000 in
set_option maxHeartbeats 2000000 in
theorem sTimes_any (n p q : Nat) (C : Int) (v1 v2 : Value) (X R : List (List Int)) (w : World) (h1 : spII.rd w v1 X) (h2 : spII.rd w v2 R) (eC : C = (n : Int))
    (hn : n ≤ 100) (hR1 : R.length ≤ 100) (hX1 : X.length ≤ 100) (hl : ∀ i, i < X.length → (X.getD i []).length = R.length) (hr : ∀ j, j < R.length → (R.getD j []).length = n)
    (b1 : ∀ i, Num.BdN p (X.getD i [])) (b2 : ∀ j, Num.BdN q (R.getD j [])) (bp : p ≤ 4611686018427387904) (b3 : 100 * (p * q) + p * q ≤ 4611686018427387904) :
    Calls Try.prog 54 #[v1, v2, .int .i64 C] w (Made spII (Num.mulZ n R.length X R) w) := by
  subst eC
  obtain ⟨i0', hi', hz0', hz1', hz2'⟩ := info_parts infoI
  obtain ⟨i0, hi, hz0, hz1, hz2⟩ := info_parts infoII
  obtain ⟨A1, c1, e1⟩ : ∃ A c, v1 = .slice A X.length c := by obtain ⟨A2, c2, e, -⟩ := h1; exact ⟨A2, c2, e⟩
  subst e1
  obtain ⟨A2, c2, e2⟩ : ∃ A c, v2 = .slice A R.length c := by obtain ⟨A2, c2, e, -⟩ := h2; exact ⟨A2, c2, e⟩
  subst e2
  have HX := Lib.hid h1
  have HR := Lib.hid h2
  have HLX := Lib.hid hl
  have HLR := Lib.hid hr
  have HB1 := Lib.hid b1
  have HB2 := Lib.hid b2
  have HMT : Hid (∀ i, i < X.length → (Num.mulZ n R.length X R).take (i + 1) = (Num.mulZ n R.length X R).take i ++ [Num.rowZ n (X.getD i []) R R.length]) := Lib.hid fun i hi => by
    rw [List.take_succ_eq_append_getElem (by rw [Num.mulZ_len]; exact hi)]
    congr 2
    have e := Num.mulZ_get (n := n) (m := R.length) (B := R) hi
    rw [← e]
    simp [Num.mulZ_len, hi]
  have HML : Hid ((Num.mulZ n R.length X R).length = X.length) := Lib.hid (Num.mulZ_len _ _ _ _)
  have HRS : Hid (∀ i j, Num.rowZ n (X.getD i []) R (j + 1) = Num.addZ ((X.getD i []).getD j 0) (Num.rowZ n (X.getD i []) R j) (R.getD j [])) := Lib.hid fun i j => rfl
  have HR0 : Hid (∀ i, Num.rowZ n (X.getD i []) R 0 = List.replicate n 0) := Lib.hid fun i => rfl
  have HRL : Hid (∀ i j, (Num.rowZ n (X.getD i []) R j).length = n) := Lib.hid fun i j => Num.rowZ_len _ _ _ _
  have HRB : Hid (∀ i j, j ≤ R.length → Num.BdN (100 * (p * q)) (Num.rowZ n (X.getD i []) R j)) := Lib.hid fun i j hj t => by
    have := Num.rowZ_bd (n := n) (b1 i) b2 j t
    have h3 : j * (p * q) ≤ 100 * (p * q) := Nat.mul_le_mul_right _ (by omega)
    omega
  clear h1 h2 hl hr b1 b2
  generalize Num.mulZ n R.length X R = M at *
  go_enter Try.func54, Try.ntmps54
  go_wp2_with (fail)
  go_loopw [7, 8] (fun s7 s8 wr => ∃ (i : Nat) (S : Nat → Prop), s8 = .int .i64 i ∧ i ≤ X.length ∧ Hid (spII.own wr S s7 (M.take i)) ∧ Hid (∀ k, S k → w.heap.size ≤ k) ∧ Below w.heap.size w wr) (fun _ s8 _ => X.length - (intOf s8).toNat)
  case atStart => exact ⟨0, _, rfl, by omega, Lib.hid (spL_empty _ _ _ _), Lib.hid (fun k hk => by omega), by go_grown⟩
  case round =>
    obtain ⟨i, S, rfl, hii, HO, hS, bel⟩ := hrel
    generalize wr = W0 at *
    have hlj : (M.take i).length = i := by rw [List.length_take, HML.out]; omega
    by_cases hlt : i < X.length
    · have j0 : (0 : Int) ≤ (i : Int) := by omega
      have j1 : (i : Int) < (X.length : Int) := by omega
      have ET := Lib.hid (HMT.out i hlt)
      obtain ⟨A', c', e', -⟩ := spII.own_rd HO.out
      rw [hlj] at e'
      subst e'
      have HLJ := Lib.hid hlj
      have HLXI := Lib.hid (HLX.out i hlt)
      clear hlj
      obtain ⟨gx, ox, ux, rfl, hgx, hcx0, hrux⟩ := spL_row HX.out hlt
      obtain ⟨Cx, cx, rfl, -, hrx⟩ := spI_form hrux
      have HRX := Lib.hid hrx
      have HCX := Lib.hid hcx0
      have HBX := Lib.hid (HB1.out i)
      have HRSI := Lib.hid (HRS.out i)
      have HR0I := Lib.hid (HR0.out i)
      have HRLI := Lib.hid (HRL.out i)
      have HRBI := Lib.hid (HRB.out i)
      clear hrux hrx hcx0
      generalize hXI : X.getD i [] = x at *
      clear hXI
      rw [HLXI.out] at HCX
      go_wp2_with (refine wpList_make_full _ rfl (.tmp 18) (.tmp 18) 25 rfl W0.heap.size 2 i0' (.int .i64 0) 1 Try.underlying25 hi' hz0' hz1' .i64 .i64 (n : Int) (n : Int) n rfl rfl rfl rfl (by rw [hz2']; omega) (by unfold maxLen; omega) (Nat.le_refl _) ?_; intro w1 own1 gr1)
      have L1 : Below W0.heap.size W0 w1 := (Below.refl _ _).grown gr1 (Nat.le_refl _) (fun k hk => by simp at hk)
      have O1 : Hid (OwnI w1 W0.heap.size (.slice (some ⟨W0.heap.size, 0, none⟩) n n) (Num.rowZ n x R 0)) := Lib.hid (by
        rw [HR0I.out]
        unfold OwnI
        have e := zeros_ints n
        simp only [List.length_replicate]
        rw [← e]
        exact own1)
      clear own1 gr1
      go_wp2_with (fail)
      go_loopw [9, 10] (fun s9 s10 w2 => ∃ j : Nat, s10 = .int .i64 j ∧ j ≤ R.length ∧ Hid (OwnI w2 W0.heap.size s9 (Num.rowZ n x R j)) ∧ Below W0.heap.size W0 w2) (fun _ s10 _ => R.length - (intOf s10).toNat)
      case atStart => exact ⟨0, rfl, by omega, O1, L1⟩
      case round =>
        obtain ⟨j, rfl, hjj, HOW, bw⟩ := hrel
        clear O1 L1
        have bwz := bstep bel bel.size bw
        by_cases hltj : j < R.length
        · obtain ⟨gz, oz, uz, rfl, hg, hc, hru⟩ := spL_row (spII.rd_below HR.out bwz) hltj
          obtain ⟨Cz, cC, rfl, mz, hrz⟩ := spI_form hru
          obtain ⟨gr, or, rfl, hgr, hcr⟩ := (HRX.out.below' bwz) j (by rw [HLXI.out]; exact hltj)
          have hcx : wr.cell? ⟨gx, ox + i, none⟩ = some (.slice (some ⟨gr, or, none⟩) R.length cx) := by rw [bwz.cell hgx]; exact HCX.out
          have q0 : (0 : Int) ≤ (j : Int) := by omega
          have q1 : (j : Int) < (R.length : Int) := by omega
          obtain ⟨U, cU, e6⟩ := HOW.out.form
          subst e6
          have xb := HBX.out j
          have HMN := Lib.hid (sMinus_any (100 * (p * q)) p q (x.getD j 0) (.slice U (Num.rowZ n x R j).length cU) (.slice Cz (R.getD j []).length cC) (Num.rowZ n x R j) (R.getD j []) (-(x.getD j 0)) wr.drew ⟨U, cU, rfl, by rw [HRLI.out]; unfold maxLen; omega, HOW.out.reads⟩ ⟨Cz, cC, rfl, mz, hrz⟩ (by rw [HLR.out j hltj, HRLI.out]) (by rw [HRLI.out]; omega) rfl (HRBI.out j hjj) xb (HB2.out j) b3)
          rw [← HRSI.out j] at HMN
          have bws := bw.size
          clear hru hrz mz
          generalize x.getD j 0 = a at *
          have n1 : -4611686018427387904 ≤ -a := by omega
          have n2 : -a ≤ 4611686018427387904 := by omega
          have WN : IntKind.i64.wrap (-a) = -a := by rw [IntKind.wrap_i64]; omega
          generalize (R.getD j []).length = ln at *
          generalize (Num.rowZ n x R j).length = lr at *
          go_wp2_with (fail)
          go_region_law (first | (go_simp; go_at_call 90; refine HMN.out.mono ?_; rintro e w3 ⟨u3, rfl, ow3, hb3⟩; have HO3 : Hid (OwnI w3 W0.heap.size u3 (Num.rowZ n x R (j + 1))) := Lib.hid (ownsRow_base ow3 bws); have bw3 : Below W0.heap.size W0 w3 := bstep (bw.drew) bws hb3; clear ow3 hb3))
          all_goals
            go_wp2_with (fail)
            exact ⟨⟨j + 1, by go_num, by omega, HO3, bw3⟩, by simp [intOf]; omega⟩
        · obtain rfl : j = R.length := by omega
          have hge : ¬ ((R.length : Int) < (R.length : Int)) := by omega
          obtain ⟨U, cU, rfl⟩ := HOW.out.form
          have HCL := Lib.hid (HRLI.out R.length)
          obtain ⟨S2, hS2, ow2⟩ : ∃ S2 : Nat → Prop, (∀ k, S2 k → W0.heap.size ≤ k) ∧ spI.own wr S2 (.slice U (Num.rowZ n x R R.length).length cU) (Num.rowZ n x R R.length) := ⟨_, fun k hk => HOW.out.base_le k hk, spI_of HOW.out⟩
          clear HOW
          generalize Num.rowZ n x R R.length = col at *
          have o2 := spII.own_below HO.out bw
          obtain ⟨vs3, hvs, hpush⟩ := spL_push o2 ow2 (fun k h1 h2 => by have := spII.own_lt HO.out h1; have := hS2 k h2; omega)
          rw [HLJ.out] at hvs hpush
          have HVS := Lib.hid (hvs.alloc (.cells #[.slice U col.length cU] 25))
          have HP := Lib.hid hpush
          have HB := Lib.hid (fun k (hk : (Value.slice A' i c').ownBlock = some k) => hS.out k (by obtain ⟨_, _, _, _, _, _, h5, _⟩ := HO.out; exact h5 k hk))
          clear hvs hpush o2
          go_wp2_with (first | (at_builtin; refine wpList_append_lies _ rfl _ _ 22 rfl 0 25 i0 (.slice none 0 0) 1 24 Try.underlying22 hi hz0 hz1 hz2 rfl (by decide) (.slice A' i c') i vs3 rfl HVS.out ⟨_, 0, none⟩ 1 1 [.slice U col.length cU] rfl rfl (by first | exact cell_one_new _ _ _ | (have hcn := cell_one_new wr (.slice U col.length cU) 25; rw [World.size_setCell] at hcn; exact hcn)) (by simp [Value.oneCell']) (by decide) (by unfold maxLen; omega) (by omega) (Nat.zero_le _) _ rfl ?_; intro g3 cap3 w3 own3 gr3 at3 lt3))
          have hzp : W0.heap.size ≤ wr.heap.size := bw.size
          have hzw := bel.size
          have OW3 := Lib.hid (HP.out _ _ _ g3 ((Below.refl _ _).alloc (Nat.le_refl _) _) own3 gr3 rfl (by rcases at3 with h' | h'; exact .inl h'; exact .inr (by simp at h' ⊢; omega)) lt3)
          have HS3 : Hid (∀ k, (S k ∨ S2 k ∨ k = g3) → w.heap.size ≤ k) := Lib.hid (fun k hk => by
            rcases hk with hk | hk | hk
            · exact hS.out _ hk
            · have := hS2 _ hk; omega
            · rcases at3 with h' | h'
              · rw [hk]; exact HB.out _ h'
              · have hzp' := hzp; simp at h' hzp'; omega)
          have bel3 : Below w.heap.size w w3 := ((bel.trans (bw.mono hzw)).alloc (by omega) _).grown gr3 (by have hzp' := hzp; simp at hzp' ⊢; omega) HB.out
          clear own3 gr3 at3 lt3 HVS HP
          clear bw hS2 ow2
          go_wp2_with (fail)
          exact ⟨⟨i + 1, _, by go_num, by omega, Lib.hid (by rw [ET.out]; exact OW3.out), HS3, bel3⟩, by simp [intOf]; omega⟩
    · obtain rfl : i = X.length := by omega
      have hge : ¬ ((X.length : Int) < (X.length : Int)) := by omega
      have HE : Hid (M.take X.length = M) := Lib.hid (List.take_of_length_le (by rw [HML.out]; omega))
      rw [HE.out] at HO
      clear hlj HE
      go_wp2_with (fail)
      go_ret
      exact Made.of rfl HO.out (fun k hk => hS.out k hk) bel
end Go.Proofs.Ytihdidbikeaafaa
