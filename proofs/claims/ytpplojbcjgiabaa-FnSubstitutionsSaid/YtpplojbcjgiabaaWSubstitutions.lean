/- The walk of the law of substitutions. -/
import Derived.Test.YtpplojbcjgiabaaSubG
import Derived.RegionTactic
import Derived.BigRegion
namespace Go.Proofs.Ytpplojbcjgiabaa
open Go.RowKit
set_option linter.unusedVariables false
set_option linter.unusedSimpArgs false

/-- The form of a list of its own, with its room. -/
theorem OwnI.room {w : World} {b : Nat} {v : Value} {x : List Int} (h : OwnI w b v x) : ∃ A n c, v = .slice A n c ∧ n = x.length ∧ n ≤ c ∧ (A = none → c = 0) ∧ (∀ p, A = some p → ∃ g, p = ⟨g, 0, none⟩) := by
  rcases h.2 with ⟨rfl, h0⟩ | ⟨g, cap, cur, rfl, hb, hg, h1⟩
  · exact ⟨none, 0, 0, rfl, by omega, Nat.le_refl _, fun _ => rfl, fun p e => by cases e⟩
  · exact ⟨_, _, _, rfl, rfl, h1.1, (fun e => by cases e), (fun p e => ⟨g, by cases e; rfl⟩)⟩

/-- The two halves of a list. -/
theorem spI_takeA {w : World} {A : Option Addr} {n c : Nat} {x : List Int} {k : Nat} (h : spI.rd w (.slice A n c) x) (hk : k ≤ x.length) : spI.rd w (.slice A k c) (x.take k) := by
  obtain ⟨A', c', e, hm, h3⟩ := h
  simp only [Value.slice.injEq] at e
  obtain ⟨rfl, rfl, rfl⟩ := e
  have el : (x.take k).length = k := by rw [List.length_take]; omega
  refine ⟨A, c, by rw [el], by rw [el]; omega, fun j hj => ?_⟩
  rw [el] at hj
  have := h3 j (by omega)
  have e : (x.take k).getD j 0 = x.getD j 0 := by simp [List.getD_eq_getElem?_getD, List.getElem?_take, hj]
  rw [e]; exact this
theorem spI_dropA {w : World} {A : Option Addr} {n c c' : Nat} {x : List Int} {k : Nat} (h : spI.rd w (.slice A n c) x) (hk : k ≤ x.length) (hc : n ≤ c) :
    spI.rd w (.slice (if c = k then A else A.map fun p => p.add k) (n - k) c') (x.drop k) := by
  obtain ⟨A', c'', e', hm, h3⟩ := h
  simp only [Value.slice.injEq] at e'
  obtain ⟨rfl, rfl, rfl⟩ := e'
  have el : (x.drop k).length = x.length - k := by simp
  refine ⟨_, _, by rw [el], by rw [el]; omega, fun j hj => ?_⟩
  rw [el] at hj
  obtain ⟨g', o', e1, e2, e3⟩ := h3 (k + j) (by omega)
  subst e1
  have e : (x.drop k).getD j 0 = x.getD (k + j) 0 := by simp [List.getD_eq_getElem?_getD]
  rw [if_neg (by omega)]
  exact ⟨g', o' + k, by simp [Addr.add_lit], e2, by rw [e, Nat.add_assoc]; exact e3⟩

set_option maxRecDepth 100000 in
set_option maxHeartbeats 8000000 in
theorem fnSubstitutions_walk (a0 : Option Addr) (len0 cap0 : Nat) (z0 : List Int) (w : World) (w0 : IsRow .u8 w a0 len0 cap0 z0) :
    Calls Try.prog 3 #[.slice a0 len0 cap0] w fun e w' => e = .returned (.bool true) ∧ Below w.heap.size w w' := by
  obtain ⟨iT, hi, hz0, hz1, hz2⟩ := info_parts infoI
  have hB := Lib.hid w0.rdB
  clear w0
  by_cases hl : 4096 < len0
  · go_enter Try.func3, Try.ntmps3
    go_wp2_with (go_at_call 6; refine (big_yes _ _ _ _ hl).mono ?_; rintro e w' ⟨rfl, rfl⟩)
    go_ret
    exact ⟨rfl, Below.refl _ _⟩
  · have hl' : len0 ≤ 4096 := by omega
    clear hl
    go_enter Try.func3, Try.ntmps3
    go_wp2_with (fail)
    refine (big_no _ _ _ _ hl').mono ?_; rintro e w' ⟨rfl, rfl⟩
    go_wp2_with (fail)
    refine (drawSubst_any _ _ _ _ hB.out hl').mono ?_; rintro e w1 ⟨k, va, a, m, vi, imgs, b1, rfl, oa, hal, hi2, hil, m0, m1, L⟩
    obtain ⟨Aa, n, ca, rfl, hn, hnc, hn0, hnp⟩ := oa.room
    have Ra := Lib.hid (spI.own_rd (spI_of oa))
    have Ri := Lib.hid hi2
    have HN := Lib.hid hn
    have HP := Lib.hid hnp
    have HN0 := Lib.hid hn0
    clear oa hi2 hB hn hnp hn0
    go_wp2_with (fail)
    refine (iSubstituteWord_any k m _ _ a imgs _ Ra.out Ri.out).mono ?_; rintro e w2 ⟨ux, Sx, rfl, ow, -, -, hb⟩
    replace Ra := Lib.hid (spI.rd_below Ra.out hb)
    replace Ri := Lib.hid (spII.rd_below Ri.out hb)
    replace L := bstep L L.size hb
    have Rx := Lib.hid (spI.own_rd ow)
    obtain ⟨Ax, cx, rfl, -, -⟩ := spI_form Rx.out
    clear ow hb
    go_wp2_with (fail)
    refine (sSubstituteWord_any k m _ _ a imgs _ Ra.out Ri.out (by omega)).mono ?_; rintro e w3 ⟨ur, Sr, rfl, ow, -, -, hb⟩
    replace Ra := Lib.hid (spI.rd_below Ra.out hb)
    replace Ri := Lib.hid (spII.rd_below Ri.out hb)
    replace Rx := Lib.hid (spI.rd_below Rx.out hb)
    replace L := bstep L L.size hb
    have Rr := Lib.hid (spI.own_rd ow)
    obtain ⟨Ar, cr, rfl, -, -⟩ := spI_form Rr.out
    clear ow hb
    have TC : (cSubstituteWord k a m imgs != cSubstituteWord k a m imgs) = false := by simp
    go_wp2_with (fail)
    refine (likeS_same _ _ _ _ _ Rx.out Rr.out rfl).mono ?_; rintro e w4 ⟨rfl, hb⟩
    replace Ra := Lib.hid (spI.rd_below Ra.out hb)
    replace Ri := Lib.hid (spII.rd_below Ri.out hb)
    replace Rx := Lib.hid (spI.rd_below Rx.out hb)
    replace L := bstep L L.size hb
    clear hb Rr TC
    by_cases hc : cSubstituteWord k a m imgs = 0
    · have hs : subC k a m imgs = 0 := by
        by_cases h : subC k a m imgs = 0
        · exact h
        · have e : cSubstituteWord k a m imgs = subC k a m imgs := if_neg h
          rw [← e]; exact hc
      obtain ⟨hk, hm, ha, hl, -⟩ := subC_zero hs
      have HH := Lib.hid (fun n => subs_halves hs hc n)
      have HSU := Lib.hid (subs_sums hs hc)
      have HST := Lib.hid (fun i j => subs_step hs i j)
      have HL := Lib.hid hl
      rw [hc]
      clear hs ha hl hc
      obtain ⟨cut, hcut⟩ : ∃ cut : Nat, n / 2 = cut := ⟨_, rfl⟩
      have hcn : cut ≤ n := by omega
      have hcc : (cut : Int) ≤ (ca : Int) := by omega
      have hcn' : (cut : Int) ≤ (n : Int) := by omega
      have hn3 : n ≤ 300 := by have := HN.out; omega
      have T2 : ((n : Int).tdiv 2) = (cut : Int) := by rw [Int.tdiv_eq_ediv_of_nonneg (by omega)]; omega
      have W2 : IntKind.i64.wrap (cut : Int) = (cut : Int) := IntWalk.i64_in _ (by omega)
      have c0 : (0 : Int) ≤ (cut : Int) := by omega
      go_wp2_with (fail)
      refine (iSubstituteWord_any k m _ _ (a.take cut) imgs _ (spI_takeA Ra.out (by have := HN.out; omega)) Ri.out).mono ?_; rintro e w5 ⟨uy, Sy, rfl, ow, -, -, hb⟩
      replace Ra := Lib.hid (spI.rd_below Ra.out hb)
      replace Ri := Lib.hid (spII.rd_below Ri.out hb)
      replace Rx := Lib.hid (spI.rd_below Rx.out hb)
      replace L := bstep L L.size hb
      have Ry := Lib.hid (spI.own_rd ow)
      obtain ⟨Ay, cy, rfl, -, -⟩ := spI_form Ry.out
      clear ow hb
      obtain ⟨AD, hAD⟩ : ∃ AD, (if ca = cut then Aa else Option.map (fun x => x.add cut) Aa) = AD := ⟨_, rfl⟩
      have Rd := Lib.hid (spI_dropA (k := cut) (c' := ca - cut) Ra.out (by have := HN.out; omega) hnc)
      rw [hAD] at Rd
      go_wp2_with (fail)
      refine (iSubstituteWord_any k m _ _ (a.drop cut) imgs _ Rd.out Ri.out).mono ?_; rintro e w6 ⟨uz, Sz, rfl, ow, -, -, hb⟩
      replace Ra := Lib.hid (spI.rd_below Ra.out hb)
      replace Ri := Lib.hid (spII.rd_below Ri.out hb)
      replace Rx := Lib.hid (spI.rd_below Rx.out hb)
      replace Ry := Lib.hid (spI.rd_below Ry.out hb)
      replace L := bstep L L.size hb
      have Rz := Lib.hid (spI.own_rd ow)
      obtain ⟨Az, cz, rfl, -, -⟩ := spI_form Rz.out
      clear ow hb hAD Rd
      have HC := Lib.hid (HH.out cut)
      clear HH
      generalize rSubstituteWord k (a.take cut) m imgs = y at *
      generalize rSubstituteWord k (a.drop cut) m imgs = z at *
      generalize cSubstituteWord k (a.take cut) m imgs = cc1 at *
      generalize cSubstituteWord k (a.drop cut) m imgs = cc2 at *
      by_cases hcc : cc1 = 0 ∧ cc2 = 0
      · obtain ⟨rfl, rfl⟩ := hcc
        obtain ⟨-, -, h3⟩ := HC.out
        obtain ⟨h4, h5⟩ := h3 rfl rfl
        clear h3 HC
        have HM := Lib.hid (iMultiplyWords_any m _ _ y z w6 Ry.out Rz.out)
        rw [h4, h5] at HM
        clear h4 h5
        generalize rSubstituteWord k a m imgs = x at *
        go_wp2_with (fail)
        refine HM.out.mono ?_; rintro e w7 ⟨uq, Sq, rfl, ow, -, -, hb⟩
        replace Ra := Lib.hid (spI.rd_below Ra.out hb)
        replace Ri := Lib.hid (spII.rd_below Ri.out hb)
        replace Rx := Lib.hid (spI.rd_below Rx.out hb)
        replace L := bstep L L.size hb
        have Rq := Lib.hid (spI.own_rd ow)
        obtain ⟨Aq, cq, rfl, -, -⟩ := spI_form Rq.out
        clear ow hb HM Ry Rz
        go_wp2_with (fail)
        refine (likeS_same _ _ _ _ _ Rx.out Rq.out rfl).mono ?_; rintro e w8 ⟨rfl, hb⟩
        replace Ra := Lib.hid (spI.rd_below Ra.out hb)
        replace Ri := Lib.hid (spII.rd_below Ri.out hb)
        replace Rx := Lib.hid (spI.rd_below Rx.out hb)
        replace L := bstep L L.size hb
        clear hb Rq
        have HE := Lib.hid (iExponentSums_any m _ x w8 Rx.out)
        obtain ⟨q1, q2, q3, q4, q5⟩ := HSU.out
        rw [q1] at HE
        have HQ4 := Lib.hid q4
        have HQ5 := Lib.hid q5
        have HEK := Lib.hid (fun W h => iExponentSums_any k (.slice Aa n ca) a W h)
        rw [q2, q3] at HEK
        have HKL : Hid ((Num.sumW k a).length = k.toNat) := Lib.hid (Num.sumW_len k a)
        clear HSU q1 q2 q3 q4 q5
        generalize rExponentSums m x = sx at *
        go_wp2_with (fail)
        refine HE.out.mono ?_; rintro e w9 ⟨us, Ss, rfl, ow, -, -, hb⟩
        replace Ra := Lib.hid (spI.rd_below Ra.out hb)
        replace Ri := Lib.hid (spII.rd_below Ri.out hb)
        replace L := bstep L L.size hb
        have Rs := Lib.hid (spI.own_rd ow)
        obtain ⟨As, cs, rfl, -, -⟩ := spI_form Rs.out
        clear ow hb HE Rx
        obtain ⟨M, rfl⟩ := Int.eq_ofNat_of_zero_le hm.1
        obtain ⟨K, rfl⟩ := Int.eq_ofNat_of_zero_le hk.1
        have hM : M ≤ 6 := by omega
        have hK : K ≤ 6 := by omega
        clear hm hk m0 m1
        have hMX1 : (if 0 < (M : Int) then (M : Int) else 0) = (M : Int) := by by_cases h : 0 < (M : Int) <;> simp [h] <;> omega
        have hMX2 : (if 0 < M then (M : Int) else 0) = (M : Int) := by by_cases h : 0 < M <;> simp [h] <;> omega
        have hmz : Below w9.heap.size w9 w9 := Below.refl _ _
        have HMT := Lib.hid (MidT.zero imgs a M)
        go_wp2_with (refine wpList_make_full _ rfl (.tmp 120) (.tmp 120) 24 rfl w9.heap.size 2 iT (.int .i64 0) 1 Try.underlying24 hi hz0 hz1 .i64 .i64 (M : Int) (M : Int) M rfl rfl rfl rfl (by rw [hz2]; omega) (by unfold maxLen; omega) (Nat.le_refl _) ?_; intro w10 own1 gr1)
        have bW : Below w9.heap.size w9 w10 := (Below.refl _ _).grown gr1 (Nat.le_refl _) (fun k hk => by simp at hk)
        have o1 := madeW_zeros own1
        have ot := World.ownsRow.lt o1
        have hgl : w9.heap.size < w10.heap.size := (ot w9.heap.size rfl).2
        clear own1 gr1 hMX1 hMX2 hmz ot
        go_wp2_with (fail)
        refine (HEK.out w10 (spI.rd_below Ra.out bW)).mono ?_; rintro e w11 ⟨up, Sp, rfl, ow, hSp, -, hb⟩
        have bX : Below w9.heap.size w9 w11 := bstep bW bW.size hb
        have o2 := Lib.hid (o1.below hb)
        obtain ⟨Ap, cp, rfl, -, -⟩ := spI_form (spI.own_rd ow)
        have HOP := Lib.hid ow
        have HSP := Lib.hid hSp
        have hKl : (((Num.sumW (K : Int) a).length : Int) != (K : Int)) = false := by rw [HKL.out]; simp
        clear o1 ow hSp hb bW HEK
        have ⟨Av, cv, ev, _, _⟩ := Ri.out
        subst ev
        have HPL : Hid ((Num.sumW (K : Int) a).length = K) := Lib.hid (by rw [HKL.out]; simp)
        have hIL : imgs.length = K := by have := HL.out; omega
        have hSX : Hid (∀ T, MidT imgs a M K 0 T → sx = T) := Lib.hid fun T hT => HQ5.out T (by rw [hT.1]; simp) (fun j hj => by
          have := hT.2 j (by omega)
          rw [this, if_neg (by omega)]
          simp)
        clear HQ5 HKL
        go_wp2_with (fail)
        go_loopw [23] (fun s wr => ∃ (i : Nat) (T : List Int), s = .int .i64 i ∧ i ≤ K ∧ Hid (MidT imgs a M i 0 T) ∧ Hid (OwnI wr w9.heap.size (.slice (some ⟨w9.heap.size, 0, none⟩) M M) T) ∧ Hid (spI.own wr Sp (.slice Ap (Num.sumW (K : Int) a).length cp) (Num.sumW (K : Int) a)) ∧ Hid (Below w9.heap.size w9 wr)) (fun s _ => K - (intOf s).toNat)
        case atStart => exact ⟨0, _, rfl, by omega, HMT, o2, HOP, Lib.hid bX⟩
        case round =>
          obtain ⟨i, T, rfl, hiK, HT, HO, HPT, HBL⟩ := hrel
          clear HMT o2 HOP bX
          by_cases hlt : i < K
          · have i0' : (0 : Int) ≤ (i : Int) := by omega
            have i1 : (i : Int) < (imgs.length : Int) := by omega
            have i2 : (i : Int) < (K : Int) := by omega
            obtain ⟨gi, oi, ui, rfl, hgi, hci, hru⟩ := spL_row (spII.rd_below Ri.out HBL.out) (by omega : i < imgs.length)
            obtain ⟨Au, cu, rfl, -, -⟩ := spI_form hru
            have HEI := Lib.hid (iExponentSums_any (M : Int) _ (imgs.getD i []) wr hru)
            rw [(HQ4.out i).1, (HQ4.out i).2] at HEI
            have hgw : w9.heap.size < wr.heap.size := (World.ownsRow.lt HO.out w9.heap.size rfl).2
            have hMl : (((Num.sumW (M : Int) (imgs.getD i [])).length : Int) != (M : Int)) = false := by rw [Num.sumW_len]; simp
            have HML : Hid ((Num.sumW (M : Int) (imgs.getD i [])).length = M) := Lib.hid (by rw [Num.sumW_len]; simp)
            have HSTI := Lib.hid (fun j => HST.out i j)
            clear hru
            generalize hsI : Num.sumW (M : Int) (imgs.getD i []) = sI at *
            generalize hIm : (imgs.getD i []).length = lI at *
            go_wp2_with (fail)
            refine HEI.out.mono ?_; rintro e w12 ⟨uo, So, rfl, ow, hSo, -, hb⟩
            obtain ⟨Ao, co, rfl, -, -⟩ := spI_form (spI.own_rd ow)
            have HO2 := Lib.hid (HO.out.below hb)
            have HP2 := Lib.hid (spI.own_below HPT.out hb)
            have HS2 := Lib.hid ow
            have HB2 := Lib.hid (bstep HBL.out HBL.out.size hb)
            have HSO := Lib.hid hSo
            clear HO HPT HBL HEI ow hSo hb hci
            clear hsI
            go_wp2_with (fail)
            go_loopw [26] (fun s wq => ∃ (j : Nat) (T2 : List Int), s = .int .i64 j ∧ j ≤ M ∧ Hid (MidT imgs a M i j T2) ∧ Hid (OwnI wq w9.heap.size (.slice (some ⟨w9.heap.size, 0, none⟩) M M) T2) ∧ Hid (spI.own wq Sp (.slice Ap (Num.sumW (K : Int) a).length cp) (Num.sumW (K : Int) a)) ∧ Hid (spI.own wq So (.slice Ao sI.length co) sI) ∧ Hid (Below w9.heap.size w9 wq)) (fun s _ => M - (intOf s).toNat)
            case atStart => exact ⟨0, _, rfl, by omega, HT, HO2, HP2, HS2, HB2⟩
            case round =>
              obtain ⟨j, T2, rfl, hj, HT2, HOW, HPW, HSW, HBW⟩ := hrel
              clear HT HO2 HP2 HS2 HB2
              by_cases hjt : j < M
              · have j0 : (0 : Int) ≤ (j : Int) := by omega
                have j1 : (j : Int) < (M : Int) := by omega
                have j2 : (j : Int) < (sI.length : Int) := by have := HML.out; omega
                have i3 : (i : Int) < ((Num.sumW (K : Int) a).length : Int) := by have := HPL.out; omega
                obtain ⟨gp, op, rfl, hgp, hcp⟩ := spI_at (spI.own_rd HPW.out) (j := i) (by have := HPL.out; omega)
                obtain ⟨go, oo, rfl, hgo, hco⟩ := spI_at (spI.own_rd HSW.out) (j := j) (by have := HML.out; omega)
                obtain ⟨t0, f0⟩ := HOW.out.at_ j (by have := HT2.out.1; omega)
                obtain ⟨hv, hn2⟩ := HT2.out.step hjt
                have HN2 := Lib.hid hn2
                obtain ⟨e1, e2, e3, e4, e5⟩ := HSTI.out j (by omega) (by omega)
                rw [hv] at t0
                rw [e1] at HN2
                have O3 := Lib.hid ((HOW.out.drewN 1).set j (Num.totW imgs a j i + (Num.sumW (K : Int) a).getD i 0 * sI.getD j 0))
                have hch : ChgS (fun k => k = w9.heap.size) wr ((wr.drewN 1).setCell ⟨w9.heap.size, j, none⟩ (.int .i64 (Num.totW imgs a j i + (Num.sumW (K : Int) a).getD i 0 * sI.getD j 0))) := (ChgS.of_grown (grown_drewN wr 1 none) (fun k e => by simp at e)).trans (ChgS.set (wr.drewN 1) ⟨w9.heap.size, j, none⟩ _)
                have P3 := Lib.hid (spI.own_chg HPW.out hch (fun k hk e => by have := HSP.out k hk; omega))
                have S3 := Lib.hid (spI.own_chg HSW.out hch (fun k hk e => by have := HSO.out k hk; omega))
                have L3 := Lib.hid (HBW.out.trans (hch.below (B := w9.heap.size) (fun k e => by omega) HBW.out.size))
                clear hv hn2 e1 hch HSTI
                generalize Num.totW imgs a j i = X at *
                generalize (Num.sumW (K : Int) a).getD i 0 = P at *
                generalize sI.getD j 0 = Q at *
                generalize (Num.sumW (K : Int) a).length = pl at *
                generalize hsl : sI.length = sl at *
                have wr1 : IntKind.i64.wrap (P * Q) = P * Q := IntWalk.i64_in _ (by omega)
                have wr2 : IntKind.i64.wrap (X + P * Q) = X + P * Q := IntWalk.i64_in _ (by omega)
                clear hsl
                go_wp2_with (fail)
                go_region
                all_goals
                  go_wp2_with (fail)
                  exact ⟨⟨j + 1, _, by go_num, by omega, HN2, O3, P3, S3, L3⟩, by simp [intOf]; omega⟩
              · obtain rfl : j = M := by omega
                have HT3 := Lib.hid HT2.out.next
                go_wp2_with (fail)
                exact ⟨⟨i + 1, _, by go_num, by omega, HT3, HOW, HPW, HBW⟩, by simp [intOf]; omega⟩
          · obtain rfl : i = K := by omega
            have hge : ¬ ((i : Int) < (i : Int)) := by omega
            have HLK := Lib.hid (likeS_same _ _ sx T wr (spI.rd_below Rs.out HBL.out) (spI.own_rd (spI_of HO.out)) (hSX.out T HT.out))
            go_wp2_with (fail)
            refine HLK.out.mono ?_; rintro e wf ⟨rfl, hb⟩
            replace L := bstep (bstep L L.size HBL.out) (by have := L.size; have := HBL.out.size; omega) hb
            go_wp2_with (fail)
            go_ret
            exact ⟨rfl, L⟩
      · have HB : Hid ((cc1 = 0 ∨ cc1 = 3) ∧ (cc2 = 0 ∨ cc2 = 3)) := Lib.hid ⟨HC.out.1, HC.out.2.1⟩
        clear HC HSU HST
        obtain ⟨b1, b2⟩ := HB.out
        rcases b1 with rfl | rfl <;> rcases b2 with rfl | rfl
        · exact absurd ⟨rfl, rfl⟩ hcc
        all_goals
          clear hcc HB
          go_wp2_with (fail)
          go_ret
          exact ⟨rfl, L⟩
    · have T1 : (cSubstituteWord k a m imgs != 0) = true := by simpa using hc
      clear hc
      generalize cSubstituteWord k a m imgs = cd at *
      go_wp2_with (fail)
      go_ret
      exact ⟨rfl, L⟩
end Go.Proofs.Ytpplojbcjgiabaa
