/- The law of quotients of abelian groups: what it asks of the data; groups compared. -/
import Derived.Test.YtpplojbcjgiabaaNumAq
import Derived.Test.YtpplojbcjgiabaaL07F
import Derived.Test.YtpplojbcjgiabaaL09H
import Derived.Test.YtpplojbcjgiabaaDrT
namespace Go.Proofs.Ytpplojbcjgiabaa
open Go.RowKit
set_option linter.unusedVariables false
set_option linter.unusedSimpArgs false

theorem quo_back {x y : Ab} (hx : x.ok = true) (hy : y.ok = true) (h : rHasAbelianQuotient x y = true) : rHasAbelianQuotient y x = decide (x.F = y.F ∧ x.K = y.K) := by
  rw [(Ab.quo_ok hx hy).1] at h
  rw [(Ab.quo_ok hy hx).1, Num.cov_both (Num.ab_dc hx) (Num.ab_dc hy) h]
  exact decide_eq_decide.mpr (Num.chainL_inj hx hy)
theorem sum_quo {x y : Ab} (hx : x.ok = true) (hy : y.ok = true) (hc : cSumAbelian x y = 0) :
    cHasAbelianQuotient (rSumAbelian x y) x = 0 ∧ cHasAbelianQuotient (rSumAbelian x y) y = 0 ∧ rHasAbelianQuotient (rSumAbelian x y) x = true ∧ rHasAbelianQuotient (rSumAbelian x y) y = true := by
  rw [(Ab.sum_ok hx hy).2] at hc
  rw [(Ab.sum_ok hx hy).1]
  have dx := Num.ab_dc hx
  have dy := Num.ab_dc hy
  have hg : ∀ g ∈ Num.chainL x.F x.K ++ Num.chainL y.F y.K, 0 ≤ g := fun g hg => by
    rcases List.mem_append.mp hg with h | h
    · exact (dx.2 g (by simpa using h)).1
    · exact (dy.2 g (by simpa using h)).1
  have hD := Num.chR_dc hg
  by_cases ho : Num.OkD (Num.chR (Num.chainL x.F x.K ++ Num.chainL y.F y.K))
  · have e : rDir (Num.chainL x.F x.K ++ Num.chainL y.F y.K) = ⟨Num.finL (Num.chR (Num.chainL x.F x.K ++ Num.chainL y.F y.K)).reverse, Num.zerN (Num.chR (Num.chainL x.F x.K ++ Num.chainL y.F y.K)).reverse⟩ := by
      unfold rDir
      rw [if_pos ho, Num.chC_eq]
    have hcn : ∀ q, Num.PP q → Num.cntQ q (Num.chR (Num.chainL x.F x.K ++ Num.chainL y.F y.K)) = Num.cntQ q (Num.chainL x.F x.K) + Num.cntQ q (Num.chainL y.F y.K) := fun q hq => by rw [Num.chR_cnt hg hq, Num.cntQ_app]
    have hr : ∀ (q : Int) (L : List Int), Num.cntQ q L.reverse = Num.cntQ q L := fun q L => List.countP_reverse
    have hok : (⟨Num.finL (Num.chR (Num.chainL x.F x.K ++ Num.chainL y.F y.K)).reverse, Num.zerN (Num.chR (Num.chainL x.F x.K ++ Num.chainL y.F y.K)).reverse⟩ : Ab).ok = true := by
      unfold Ab.ok
      rw [Num.ab_of hD]
      exact decide_eq_true ho
    rw [e, (Ab.quo_ok hok hx).2, (Ab.quo_ok hok hy).2, (Ab.quo_ok hok hx).1, (Ab.quo_ok hok hy).1]
    simp only [Num.dc_chain hD, List.reverse_reverse]
    exact ⟨trivial, trivial, Num.cov_of_cnt hD dx fun q hq => by rw [hcn q hq, hr]; omega, Num.cov_of_cnt hD dy fun q hq => by rw [hcn q hq, hr]; omega⟩
  · unfold cDir at hc
    rw [if_neg ho] at hc
    omega
/-- Both at once. -/
theorem quo_code {x y : Ab} (h : cHasAbelianQuotient x y = 0) : x.ok = true ∧ y.ok = true := by
  unfold cHasAbelianQuotient at h
  split at h
  · assumption
  · omega
theorem Num.extT {x y : List Int} (h : x.length = y.length) (hg : ∀ i, i < x.length → x.getD i 0 = y.getD i 0) : x = y :=
  List.ext_getElem h fun i hi hj => by
    have := hg i hi
    rwa [List.getD_eq_getElem?_getD, List.getD_eq_getElem?_getD, List.getElem?_eq_getElem hi, List.getElem?_eq_getElem hj] at this
set_option maxHeartbeats 1000000 in
theorem likeT_any (v u : Value) (xs ys : List Int) (w : World) (hv : spI.rd w v xs) (hu : spI.rd w u ys) :
    Calls Try.prog 10 #[v, u] w fun e w' => e = .returned (.bool (decide (xs = ys))) ∧ Below w.heap.size w w' := by
  obtain ⟨A, c, rfl, mA, h⟩ := hv
  obtain ⟨B, d, rfl, mB, k⟩ := hu
  have HR := Lib.hid h
  have HK := Lib.hid k
  unfold maxLen at mA mB
  clear h k
  by_cases hl : xs.length = ys.length
  · have el : ((xs.length : Int) != (ys.length : Int)) = false := by simp [hl]
    have HL := Lib.hid hl
    have l1 : xs.length ≤ ys.length := by omega
    clear hl
    go_enter Try.func10, Try.ntmps10
    go_wp2_with (fail)
    go_loopw [5] (fun s wr => ∃ j : Nat, s = .int .i64 j ∧ j ≤ xs.length ∧ Hid (∀ i, i < j → xs.getD i 0 = ys.getD i 0) ∧ Below w.heap.size w wr) (fun s _ => xs.length - (intOf s).toNat)
    case atStart => exact ⟨0, rfl, by omega, Lib.hid fun i hi => by omega, Below.refl _ _⟩
    case round =>
      obtain ⟨j, rfl, hj, hz, bel⟩ := hrel
      clear el
      by_cases hlt : j < xs.length
      · obtain ⟨g, o, rfl, hg, hc⟩ := (HR.out.below' bel) j hlt
        obtain ⟨g', o', rfl, hg', hc'⟩ := (HK.out.below' bel) j (by omega : j < ys.length)
        have i0 : (0 : Int) ≤ (j : Int) := by omega
        have i1 : (j : Int) < (xs.length : Int) := by omega
        have i2 : (j : Int) < (ys.length : Int) := by omega
        by_cases hy : xs.getD j 0 = ys.getD j 0
        · have HZ : Hid (∀ i, i < j + 1 → xs.getD i 0 = ys.getD i 0) := Lib.hid fun i hi => by
            by_cases e : i = j
            · rw [e]; exact hy
            · exact hz.out i (by omega)
          rw [← hy] at hc'
          clear hy
          generalize xs.getD j 0 = y at *
          have ee : (y != y) = false := by simp
          go_wp2
          go_quiet (fail)
          go_wp2
          exact ⟨⟨j + 1, by go_num, by omega, HZ, below_drewN bel _⟩, by simp [intOf]; omega⟩
        · have E : Hid (decide (xs = ys) = false) := Lib.hid (by
            refine decide_eq_false fun e => hy ?_
            rw [e])
          have hy' : (xs.getD j 0 != ys.getD j 0) = true := by simpa using hy
          generalize xs.getD j 0 = y at *
          generalize ys.getD j 0 = z at *
          go_wp2
          go_quiet (fail)
          go_wp2
          go_ret
          exact ⟨by rw [E.out]; rfl, below_drewN bel _⟩
      · have hge : ¬ ((j : Int) < (xs.length : Int)) := by omega
        obtain rfl : j = xs.length := by omega
        have E : Hid (decide (xs = ys) = true) := Lib.hid (by simpa using Num.extT HL.out hz.out)
        go_wp2_with (fail)
        go_ret
        exact ⟨by rw [E.out]; rfl, bel⟩
  · have el : ((xs.length : Int) != (ys.length : Int)) = true := by simp; omega
    have E : Hid (decide (xs = ys) = false) := Lib.hid (by simp; intro e; exact hl (by rw [e]))
    go_enter Try.func10, Try.ntmps10
    go_wp2_with (fail)
    go_ret
    exact ⟨by rw [E.out]; rfl, Below.refl _ _⟩
set_option maxHeartbeats 1000000 in
theorem likeAb_any (v0 v1 : Value) (x0 x1 : Ab) (w : World) (h0 : spAb.rd w v0 x0) (h1 : spAb.rd w v1 x1) : Calls Try.prog 21 #[v0, v1] w (RetB (decide (x0.F = x1.F ∧ x0.K = x1.K)) w) := by
  obtain ⟨F0, K0⟩ := x0
  obtain ⟨_, rfl, A0, c0, rfl, hm0, hA0⟩ := h0
  replace hA0 : RdI w A0 F0 := hA0
  replace hm0 : F0.length ≤ maxLen := hm0
  obtain ⟨F1, K1⟩ := x1
  obtain ⟨_, rfl, A1, c1, rfl, hm1, hA1⟩ := h1
  replace hA1 : RdI w A1 F1 := hA1
  replace hm1 : F1.length ≤ maxLen := hm1
  show Calls _ _ _ _ (RetB (decide (F0 = F1 ∧ K0 = K1)) w)
  have L1 : Below w.heap.size w ((w.alloc (.cells [.slice A0 F0.length c0, (.int .i64 K0 : Value)].toArray 40)).alloc (.cells [.slice A1 F1.length c1, (.int .i64 K1 : Value)].toArray 40)) := by go_grown
  have B1 : Blk ((w.alloc (.cells [.slice A0 F0.length c0, (.int .i64 K0 : Value)].toArray 40)).alloc (.cells [.slice A1 F1.length c1, (.int .i64 K1 : Value)].toArray 40)) w.heap.size [.slice A0 F0.length c0, .int .i64 K0] 40 := (Blk.new w _ _).alloc _
  have B2 : Blk ((w.alloc (.cells [.slice A0 F0.length c0, (.int .i64 K0 : Value)].toArray 40)).alloc (.cells [.slice A1 F1.length c1, (.int .i64 K1 : Value)].toArray 40)) (w.heap.size + 1) [.slice A1 F1.length c1, .int .i64 K1] 40 := by have := Blk.new (w.alloc (.cells [.slice A0 F0.length c0, (.int .i64 K0 : Value)].toArray 40)) [.slice A1 F1.length c1, .int .i64 K1] 40; rwa [World.size_alloc] at this
  have R0 := Lib.hid (spI.rd_below (⟨A0, c0, rfl, hm0, hA0⟩ : spI.rd w (.slice A0 F0.length c0) F0) L1)
  have R1 := Lib.hid (spI.rd_below (⟨A1, c1, rfl, hm1, hA1⟩ : spI.rd w (.slice A1 F1.length c1) F1) L1)
  obtain ⟨bl, a0, a1⟩ := B1.c2
  obtain ⟨bl', b0, b1⟩ := B2.c2
  clear hA0 hA1 hm0 hm1
  by_cases hK : K0 = K1
  · have HD : Hid (decide (F0 = F1 ∧ K0 = K1) = decide (F0 = F1)) := Lib.hid (decide_eq_decide.mpr ⟨fun h => h.1, fun h => ⟨h, hK⟩⟩)
    rw [HD.out]
    have HLK := Lib.hid (likeT_any _ _ _ _ _ R0.out R1.out)
    generalize decide (F0 = F1) = d at *
    subst hK
    have T0 : (K0 == K0) = true := by simp
    clear HD R0 R1
    go_enter Try.func21, Try.ntmps21
    go_wp2_with (fail)
    refine HLK.out.mono ?_; rintro e w2 ⟨rfl, hb⟩
    go_wp2_with (fail)
    go_ret
    exact ⟨rfl, bstep L1 L1.size hb⟩
  · have e : decide (F0 = F1 ∧ K0 = K1) = false := decide_eq_false fun h => hK h.2
    rw [e]
    have T0 : (K0 == K1) = false := by simpa using hK
    clear e R0 R1
    go_enter Try.func21, Try.ntmps21
    go_wp2_with (fail)
    go_ret
    exact ⟨rfl, L1⟩
end Go.Proofs.Ytpplojbcjgiabaa
