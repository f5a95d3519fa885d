/- Presentations of the program: areGroupPrimes, ordersCode, hasPresentationShape, isBelow. -/
import Derived.Test.YteappjgdcbploaaL11A
namespace Go.Proofs.Yteappjgdcbploaa
open Go.RowKit
set_option linter.unusedVariables false
set_option linter.unusedSimpArgs false

set_option maxHeartbeats 1000000 in
theorem gps_any (A : Option Addr) (c : Nat) (O : List Int) (w : World) (hA : RdI w A O) (hl : O.length ≤ maxLen) :
    Calls Try.prog 144 #[.slice A O.length c] w fun e w' => e = .returned (.bool (Num.gpsB O)) ∧ w = w' := by
  unfold maxLen at hl
  have HY : Hid ((∀ j, j < O.length → Num.gp (O.getD j 0) = true) → Num.gpsB O = true) := Lib.hid Num.gpsB_ok
  have HN : Hid (∀ j, j < O.length → Num.gp (O.getD j 0) = false → Num.gpsB O = false) := Lib.hid fun j hj h => Num.gpsB_bad hj h
  go_enter Try.func144, Try.ntmps144
  go_wp2_with (fail)
  go_loop [7] (fun s => ∃ i : Nat, i ≤ O.length ∧ s = .int .i64 i ∧ Hid (∀ j, j < i → Num.gp (O.getD j 0) = true)) (fun s => O.length - (intOf s).toNat)
  case atStart => exact ⟨0, by omega, rfl, Lib.hid fun j hj => by omega⟩
  case round =>
    obtain ⟨i, hi, rfl, hq⟩ := hrel
    by_cases hlt : i < O.length
    · obtain ⟨g, o, rfl, hg, hc⟩ := hA i hlt
      have i0 : (0 : Int) ≤ (i : Int) := by omega
      have i1 : (i : Int) < (O.length : Int) := by omega
      have HS : Hid (Num.gp (O.getD i 0) = true → ∀ j, j < i + 1 → Num.gp (O.getD j 0) = true) := Lib.hid fun h j hj' => by
        rcases Nat.lt_succ_iff_lt_or_eq.mp hj' with h1 | rfl
        · exact hq.out j h1
        · exact h
      have HB := Lib.hid (HN.out i hlt)
      clear hq
      generalize O.getD i 0 = y at *
      cases hy : Num.gp y with
      | true =>
        have HP := Lib.hid (gp_yes y w hy)
        have HQ := Lib.hid (HS.out hy)
        clear hy
        go_wp2_with (fail)
        refine HP.out.mono ?_; rintro e w' ⟨rfl, rfl⟩
        go_wp2_with (fail)
        exact ⟨⟨i + 1, by omega, by go_num, HQ⟩, by simp [intOf]; omega⟩
      | false =>
        have HP := Lib.hid (gp_no y w hy)
        have HQ := Lib.hid (HB.out hy)
        clear hy
        go_wp2_with (fail)
        refine HP.out.mono ?_; rintro e w' ⟨rfl, rfl⟩
        go_wp2_with (fail)
        go_ret
        exact ⟨ret_b HQ.out.symm, rfl⟩
    · have hge : ¬ ((i : Int) < (O.length : Int)) := by omega
      obtain rfl : i = O.length := by omega
      have HQ := Lib.hid (HY.out hq.out)
      go_wp2_with (fail)
      go_ret
      exact ⟨ret_b HQ.out.symm, rfl⟩
set_option maxHeartbeats 1000000 in
theorem ordersCode_any (A : Option Addr) (c : Nat) (O : List Int) (w : World) (hA : RdI w A O) (hl : O.length ≤ maxLen) :
    Calls Try.prog 125 #[.slice A O.length c] w fun e w' => e = .returned (.int .i64 (Num.ordC O)) ∧ w = w' := by
  have hl' := hl
  unfold maxLen at hl'
  by_cases h6 : 6 < O.length
  · have q1 : 6 < (O.length : Int) := by omega
    have HE := Lib.hid (Num.ordC_len h6)
    go_enter Try.func125, Try.ntmps125
    go_wp2_with (fail)
    go_ret
    exact ⟨ret_i HE.out.symm, rfl⟩
  · have q1 : ¬ 6 < (O.length : Int) := by omega
    have HG := Lib.hid (gps_any A c O w hA hl)
    cases hg : Num.gpsB O with
    | false =>
      have HE := Lib.hid (Num.ordC_bad h6 hg)
      rw [hg] at HG
      clear hg
      go_enter Try.func125, Try.ntmps125
      go_wp2_with (fail)
      refine HG.out.mono ?_; rintro e w' ⟨rfl, rfl⟩
      go_wp2_with (fail)
      go_ret
      exact ⟨ret_i HE.out.symm, rfl⟩
    | true =>
      obtain ⟨e1, e2⟩ := Num.cnt_small (by omega) hg
      have HC := Lib.hid (countProd_any A c O w hA hl (fun j hj => by have := Num.gpsB_at hg hj; omega))
      rw [e1, e2] at HC
      rw [hg] at HG
      have HE1 : Hid (729 < Num.prodZ O → Num.ordC O = 3) := Lib.hid (Num.ordC_big h6 hg)
      have HE2 : Hid (¬ 729 < Num.prodZ O → Num.ordC O = 0) := Lib.hid (Num.ordC_ok h6 hg)
      clear hg e1 e2
      generalize Num.prodZ O = q at *
      by_cases hq : 729 < q
      · have HE := Lib.hid (HE1.out hq)
        go_enter Try.func125, Try.ntmps125
        go_wp2_with (fail)
        refine HG.out.mono ?_; rintro e w' ⟨rfl, rfl⟩
        go_wp2_with (fail)
        refine HC.out.mono ?_; rintro e w' ⟨rfl, rfl⟩
        go_wp2_with (fail)
        go_ret
        exact ⟨ret_i HE.out.symm, rfl⟩
      · have HE := Lib.hid (HE2.out hq)
        go_enter Try.func125, Try.ntmps125
        go_wp2_with (fail)
        refine HG.out.mono ?_; rintro e w' ⟨rfl, rfl⟩
        go_wp2_with (fail)
        refine HC.out.mono ?_; rintro e w' ⟨rfl, rfl⟩
        go_wp2_with (fail)
        go_ret
        exact ⟨ret_i HE.out.symm, rfl⟩
/-- The lists are as many and as long as they should be. -/
def Num.shapeB (O : List Int) (W : List (List Int)) (J : List (List (List Int))) : Bool := decide (W.length = O.length) && decide (J.length = O.length) && decide (∀ i, i < J.length → (J.getD i []).length = O.length - 1 - i)
theorem Num.shapeB_out {O : List Int} {W : List (List Int)} {J : List (List (List Int))} (h : Num.shapeB O W J = true) : W.length = O.length ∧ J.length = O.length ∧ ∀ i, i < J.length → (J.getD i []).length = O.length - 1 - i := by
  simp only [Num.shapeB, Bool.and_eq_true, decide_eq_true_eq] at h
  exact ⟨h.1.1, h.1.2, h.2⟩
theorem Num.shapeB_ok {O : List Int} {W : List (List Int)} {J : List (List (List Int))} (h1 : W.length = O.length) (h2 : J.length = O.length) (h3 : ∀ i, i < J.length → (J.getD i []).length = O.length - 1 - i) : Num.shapeB O W J = true := by
  simp only [Num.shapeB, Bool.and_eq_true, decide_eq_true_eq]
  exact ⟨⟨h1, h2⟩, h3⟩
theorem Num.shapeB_no {O : List Int} {W : List (List Int)} {J : List (List (List Int))} (h : ¬ (W.length = O.length ∧ J.length = O.length ∧ ∀ i, i < J.length → (J.getD i []).length = O.length - 1 - i)) : Num.shapeB O W J = false := by
  cases hv : Num.shapeB O W J with
  | false => rfl
  | true => exact absurd (Num.shapeB_out hv) h
set_option maxHeartbeats 1000000 in
theorem shape_any (A0 A1 A2 : Option Addr) (c0 c1 c2 : Nat) (O : List Int) (W : List (List Int)) (J : List (List (List Int))) (w : World) (hJ : RdX w A2 J) (m0 : O.length ≤ 6) (m1 : W.length ≤ maxLen) (m2 : J.length ≤ maxLen) :
    Calls Try.prog 126 #[.agg #[.slice A0 O.length c0, .slice A1 W.length c1, .slice A2 J.length c2]] w (RetB (Num.shapeB O W J) w) := by
  have b0 : Below w.heap.size w (w.alloc (.cells #[.slice A0 O.length c0, .slice A1 W.length c1, .slice A2 J.length c2] 29)) := by go_grown
  unfold maxLen at m1 m2
  by_cases eW : W.length = O.length
  · have T1 : ((W.length : Int) != (O.length : Int)) = false := by simp [eW]
    by_cases eJ : J.length = O.length
    · have T2 : ((J.length : Int) != (O.length : Int)) = false := by simp [eJ]
      have HY : Hid ((∀ i, i < J.length → (J.getD i []).length = O.length - 1 - i) → Num.shapeB O W J = true) := Lib.hid (Num.shapeB_ok eW eJ)
      have HN : Hid (∀ i, i < J.length → (J.getD i []).length ≠ O.length - 1 - i → Num.shapeB O W J = false) := Lib.hid fun i hi h => Num.shapeB_no fun hh => h (hh.2.2 i hi)
      have HJ := Lib.hid (hJ.below' b0)
      have BX := (Blk.new w [.slice A0 O.length c0, .slice A1 W.length c1, .slice A2 J.length c2] 29).c3
      have lJ : J.length ≤ O.length := by omega
      clear hJ eW eJ
      generalize hW0 : (w.alloc (.cells #[.slice A0 O.length c0, .slice A1 W.length c1, .slice A2 J.length c2] 29)) = W0 at *
      obtain ⟨bl, bx0, bx1, bx2⟩ := BX
      go_enter Try.func126, Try.ntmps126
      go_wp2_with (fail)
      clear hW0 T1 T2
      go_loop [24] (fun s => ∃ i : Nat, i ≤ J.length ∧ s = .int .i64 i ∧ Hid (∀ j, j < i → (J.getD j []).length = O.length - 1 - j)) (fun s => J.length - (intOf s).toNat)
      case atStart => exact ⟨0, by omega, rfl, Lib.hid fun j hj => by omega⟩
      case round =>
        obtain ⟨i, hi, rfl, hq⟩ := hrel
        by_cases hlt : i < J.length
        · obtain ⟨g2, o2, B2, d2, rfl, hg2, hc2, hl2, -⟩ := HJ.out i hlt
          have i0 : (0 : Int) ≤ (i : Int) := by omega
          have i1 : (i : Int) < (J.length : Int) := by omega
          have hw1 : IntKind.i64.wrap ((O.length : Int) - 1) = (O.length : Int) - 1 := IntWalk.i64_in _ (by omega)
          have hw2 : IntKind.i64.wrap ((O.length : Int) - 1 - (i : Int)) = (O.length : Int) - 1 - (i : Int) := IntWalk.i64_in _ (by omega)
          have HS : Hid ((J.getD i []).length = O.length - 1 - i → ∀ j, j < i + 1 → (J.getD j []).length = O.length - 1 - j) := Lib.hid fun h j hj' => by
            rcases Nat.lt_succ_iff_lt_or_eq.mp hj' with h1 | rfl
            · exact hq.out j h1
            · exact h
          have HB := Lib.hid (HN.out i hlt)
          clear hq
          unfold maxLen at hl2
          generalize (J.getD i []).length = r at *
          by_cases hr : r = O.length - 1 - i
          · have T4 : ((r : Int) != (O.length : Int) - 1 - (i : Int)) = false := by simp; omega
            have HQ := Lib.hid (HS.out hr)
            clear hr
            go_wp2_with (fail)
            exact ⟨⟨i + 1, by omega, by go_num, HQ⟩, by simp [intOf]; omega⟩
          · have T4 : ((r : Int) != (O.length : Int) - 1 - (i : Int)) = true := by simp; omega
            have HQ := Lib.hid (HB.out hr)
            clear hr
            go_wp2_with (fail)
            go_ret
            exact ⟨ret_b HQ.out.symm, b0⟩
        · have hge : ¬ ((i : Int) < (J.length : Int)) := by omega
          obtain rfl : i = J.length := by omega
          have HQ := Lib.hid (HY.out hq.out)
          go_wp2_with (fail)
          go_ret
          exact ⟨ret_b HQ.out.symm, b0⟩
    · have T2 : ((J.length : Int) != (O.length : Int)) = true := by simp; omega
      have HB : Hid (Num.shapeB O W J = false) := Lib.hid (Num.shapeB_no fun hh => eJ hh.2.1)
      clear hJ eW eJ
      go_enter Try.func126, Try.ntmps126
      go_wp2_with (fail)
      go_ret
      exact ⟨ret_b HB.out.symm, b0⟩
  · have T1 : ((W.length : Int) != (O.length : Int)) = true := by simp; omega
    have HB : Hid (Num.shapeB O W J = false) := Lib.hid (Num.shapeB_no fun hh => eW hh.1)
    clear hJ eW
    go_enter Try.func126, Try.ntmps126
    go_wp2_with (fail)
    go_ret
    exact ⟨ret_b HB.out.symm, b0⟩
set_option maxRecDepth 100000 in
set_option maxHeartbeats 1000000 in
theorem isBelow_any (A B : Option Addr) (c d : Nat) (v b : List Int) (w : World) (hA : RdI w A v) (hB : RdI w B b) (hv : v.length ≤ maxLen) (hb : b.length ≤ maxLen) :
    Calls Try.prog 105 #[.slice A v.length c, .slice B b.length d] w fun e w' => e = .returned (.bool (Num.blwB v b)) ∧ w = w' := by
  unfold maxLen at hv hb
  by_cases hn : v.length = b.length
  · have HY : Hid ((∀ j, j < v.length → Num.Blw v b j) → Num.blwB v b = true) := Lib.hid fun h => Num.blwB_ok hn h
    have HB0 : Hid (∀ j, j < v.length → ¬ Num.Blw v b j → Num.blwB v b = false) := Lib.hid fun j hj h => Num.blwB_bad hj h
    have T0 : ((v.length : Int) != (b.length : Int)) = false := by simp [hn]
    have l1 : v.length ≤ b.length := by omega
    clear hn
    go_enter Try.func105, Try.ntmps105
    go_wp2_with (fail)
    clear T0
    go_loop [14] (fun s => ∃ k : Nat, k ≤ v.length ∧ s = .int .i64 k ∧ Hid (∀ j, j < k → Num.Blw v b j)) (fun s => v.length - (intOf s).toNat)
    case atStart => exact ⟨0, by omega, rfl, Lib.hid fun j hj => by omega⟩
    case round =>
      obtain ⟨k, hk, rfl, hp⟩ := hrel
      by_cases hlt : k < v.length
      · obtain ⟨g, o, rfl, hg, hc⟩ := hA k hlt
        obtain ⟨g', o', rfl, hg', hc'⟩ := hB k (by omega)
        have i0 : (0 : Int) ≤ (k : Int) := by omega
        have i1 : (k : Int) < (v.length : Int) := by omega
        have i2 : (k : Int) < (b.length : Int) := by omega
        have HS : Hid (Num.Blw v b k → ∀ j, j < k + 1 → Num.Blw v b j) := Lib.hid fun h j hj => by
          rcases Nat.lt_succ_iff_lt_or_eq.mp hj with h1 | rfl
          · exact hp.out j h1
          · exact h
        have HX0 : Hid (¬ Num.Blw v b k → Num.blwB v b = false) := Lib.hid fun h => HB0.out k hlt h
        have hq : Num.Blw v b k ↔ (0 ≤ v.getD k 0 ∧ v.getD k 0 < b.getD k 0) := Iff.rfl
        clear hp
        generalize v.getD k 0 = x at *
        generalize b.getD k 0 = y at *
        by_cases h0 : x < 0
        · have HN := Lib.hid (HX0.out (fun h => by have := (hq.mp h).1; omega))
          clear hq
          go_wp2_with (fail)
          go_ret
          exact ⟨ret_b HN.out.symm, rfl⟩
        · have q0 : decide (x < 0) = false := decide_eq_false h0
          by_cases h1 : y ≤ x
          · have HN := Lib.hid (HX0.out (fun h => by have := (hq.mp h).2; omega))
            clear hq
            go_wp2_with (fail)
            go_ret
            exact ⟨ret_b HN.out.symm, rfl⟩
          · have HN := Lib.hid (HS.out (hq.mpr ⟨by omega, by omega⟩))
            clear hq
            go_wp2_with (fail)
            exact ⟨⟨k + 1, by omega, by go_num, HN⟩, by simp [intOf]; omega⟩
      · have hge : ¬ ((k : Int) < (v.length : Int)) := by omega
        obtain rfl : k = v.length := by omega
        have HN := Lib.hid (HY.out hp.out)
        go_wp2_with (fail)
        go_ret
        exact ⟨ret_b HN.out.symm, rfl⟩
  · have T0 : ((v.length : Int) != (b.length : Int)) = true := by simp; omega
    have HN : Hid (Num.blwB v b = false) := Lib.hid (Num.blwB_len hn)
    go_enter Try.func105, Try.ntmps105
    go_wp2_with (fail)
    go_ret
    exact ⟨ret_b HN.out.symm, rfl⟩
end Go.Proofs.Yteappjgdcbploaa
