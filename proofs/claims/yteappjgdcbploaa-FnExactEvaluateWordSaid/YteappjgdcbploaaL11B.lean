/- Presentations: the model's IsPresentation. -/
import Derived.Test.YteappjgdcbploaaL11A
namespace Go.Proofs.Yteappjgdcbploaa
open Go.RowKit
set_option linter.unusedVariables false
set_option linter.unusedSimpArgs false

set_option maxRecDepth 100000 in
set_option maxHeartbeats 2000000 in
/-- Of orders and lists that fit in number. -/
theorem sIsPres_main (A0 A1 A2 : Option Addr) (c0 c1 c2 : Nat) (O : List Int) (W : List (List Int)) (J : List (List (List Int))) (w : World) (hO : RdI w A0 O) (hW : RdW w A1 W) (hJ : RdX w A2 J)
    (h6 : O.length ≤ 6) (hg : Num.gpsB O = true) (hp : ¬ 729 < Num.prodZ O) (eW : W.length = O.length) (eJ : J.length = O.length) :
    Calls Try.prog 92 #[.agg #[.slice A0 O.length c0, .slice A1 W.length c1, .slice A2 J.length c2]] w (RetB (Num.preB O W J) w) := by
  have ho : ∀ j, j < O.length → 1 ≤ O.getD j 0 ∧ O.getD j 0 ≤ 7 := fun j hj => by have := Num.gpsB_at hg hj; omega
  have hgp := Num.gpsB_out hg
  have e7 := (Num.prod7_of hg).1 (by omega)
  have e729 : ¬ 729 < Num.prod7 1 O := by omega
  have HY : Hid ((∀ i, i < O.length → Num.fitB O (W.getD i []) (i + 1) = true) → (∀ i, i < O.length → Num.conB O i (J.getD i []) = true) → Num.preB O W J = true) := Lib.hid fun a b => Num.preB_ok (Num.ordC_ok (by omega) hg hp) eW eJ a b
  have HN1 : Hid (∀ i, i < O.length → Num.fitB O (W.getD i []) (i + 1) = false → Num.preB O W J = false) := Lib.hid fun i hi h => Num.preB_no fun hh => by have := hh.2.2.2.1 i hi; rw [h] at this; cases this
  have HN2 : Hid (∀ i, i < O.length → Num.conB O i (J.getD i []) = false → Num.preB O W J = false) := Lib.hid fun i hi h => Num.preB_no fun hh => by have := hh.2.2.2.2 i hi; rw [h] at this; cases this
  have b0 : Below w.heap.size w (w.alloc (.cells #[.slice A0 O.length c0, .slice A1 W.length c1, .slice A2 J.length c2] 29)) := by go_grown
  have HO := Lib.hid (hO.below' b0)
  have HW := Lib.hid (hW.below' b0)
  have HJ := Lib.hid (hJ.below' b0)
  have BX := (Blk.new w [.slice A0 O.length c0, .slice A1 W.length c1, .slice A2 J.length c2] 29).c3
  have T1 : ((W.length : Int) != (O.length : Int)) = false := by simp [eW]
  have T2 : ((J.length : Int) != (O.length : Int)) = false := by simp [eJ]
  have T3 : ¬ (6 < (O.length : Int)) := by omega
  have lW : O.length ≤ W.length := by omega
  have lJ : O.length ≤ J.length := by omega
  have HG := Lib.hid hgp
  have HO1 := Lib.hid ho
  have hl : O.length ≤ maxLen := by unfold maxLen; omega
  clear hO hW hJ hg hp eW eJ ho hgp e7
  generalize hW0 : (w.alloc (.cells #[.slice A0 O.length c0, .slice A1 W.length c1, .slice A2 J.length c2] 29)) = W0 at *
  obtain ⟨bl, bx0, bx1, bx2⟩ := BX
  go_enter Try.func92, Try.ntmps92
  go_wp2_with (fail)
  clear hW0
  go_loop [4] (fun s => ∃ i : Nat, i ≤ O.length ∧ s = .int .i64 i) (fun s => O.length - (intOf s).toNat)
  case atStart => exact ⟨0, by omega, rfl⟩
  case round =>
    obtain ⟨i, hi, rfl⟩ := hrel
    clear T1 T2 T3
    by_cases hlt : i < O.length
    · obtain ⟨g, o, rfl, hg, hc⟩ := HO.out i hlt
      have i0 : (0 : Int) ≤ (i : Int) := by omega
      have i1 : (i : Int) < (O.length : Int) := by omega
      have HP := Lib.hid (sPrime_yes (O.getD i 0) W0 (HG.out i hlt))
      generalize O.getD i 0 = y at *
      go_wp2_with (fail)
      refine HP.out.mono ?_; rintro e w' ⟨rfl, rfl⟩
      go_wp2_with (fail)
      exact ⟨⟨i + 1, by omega, by go_num⟩, by simp [intOf]; omega⟩
    · have hge : ¬ ((i : Int) < (O.length : Int)) := by omega
      have HQ := Lib.hid (sProd7_any A0 c0 O W0 HO.out hl HO1.out)
      go_wp2_with (fail)
      refine HQ.out.mono ?_; rintro e w' ⟨rfl, rfl⟩
      go_wp2_with (fail)
      clear HQ hge hlt hi
      go_loopw [5] (fun s wr => ∃ i m : Nat, i ≤ O.length ∧ s = .int .i64 i ∧ Hid (∀ j, j < i → Num.fitB O (W.getD j []) (j + 1) = true) ∧ Hid (∀ j, j < i → Num.conB O j (J.getD j []) = true) ∧ wr = W0.drewN m) (fun s _ => O.length - (intOf s).toNat)
      case atStart => exact ⟨0, 0, by omega, rfl, Lib.hid fun j hj => by omega, Lib.hid fun j hj => by omega, rfl⟩
      case round =>
        obtain ⟨i, m, hi, rfl, hf, hj, rfl⟩ := hrel
        clear e729
        by_cases hlt : i < O.length
        · obtain ⟨g1, o1, B1, d1, rfl, hg1, hc1, hl1, hr1⟩ := HW.out i (by omega)
          obtain ⟨g2, o2, B2, d2, rfl, hg2, hc2, hl2, hr2⟩ := HJ.out i (by omega)
          have i0 : (0 : Int) ≤ (i : Int) := by omega
          have i1 : (i : Int) < (O.length : Int) := by omega
          have i2 : (i : Int) < (W.length : Int) := by omega
          have i3 : (i : Int) < (J.length : Int) := by omega
          have hw1 : IntKind.i64.wrap ((O.length : Int) - 1) = (O.length : Int) - 1 := IntWalk.i64_in _ (by omega)
          have hw2 : IntKind.i64.wrap ((O.length : Int) - 1 - (i : Int)) = (O.length : Int) - 1 - (i : Int) := IntWalk.i64_in _ (by omega)
          have HF0 := Lib.hid (HN1.out i hlt)
          have HC0 := Lib.hid (HN2.out i hlt)
          have HS1 : Hid (Num.fitB O (W.getD i []) (i + 1) = true → ∀ j, j < i + 1 → Num.fitB O (W.getD j []) (j + 1) = true) := Lib.hid fun h j hj' => by
            rcases Nat.lt_succ_iff_lt_or_eq.mp hj' with h1 | rfl
            · exact hf.out j h1
            · exact h
          have HS2 : Hid (Num.conB O i (J.getD i []) = true → ∀ j, j < i + 1 → Num.conB O j (J.getD j []) = true) := Lib.hid fun h j hj' => by
            rcases Nat.lt_succ_iff_lt_or_eq.mp hj' with h1 | rfl
            · exact hj.out j h1
            · exact h
          clear hf hj
          generalize W.getD i [] = x at *
          generalize J.getD i [] = r at *
          have HE : Hid (∀ W' : World, (∃ q, W' = W0.drewN q) → Calls Try.prog 104 #[.slice A0 O.length c0, .slice B1 x.length d1, .int .i64 i] W' fun e w' => e = .returned (.bool (Num.fitB O x (i + 1))) ∧ ∃ m, w' = W'.drewN m) :=
            Lib.hid fun W' ⟨q, hq⟩ => by subst hq; exact sExp_any A0 B1 c0 d1 O x (i + 1) i _ HO.out hr1 hl hl1 HO1.out (by omega)
          have HE2 : Hid (∀ (B : Option Addr) (d : Nat) (y : List Int) (W' : World), (∃ q, W' = W0.drewN q) → RdI W0 B y → y.length ≤ maxLen → Calls Try.prog 104 #[.slice A0 O.length c0, .slice B y.length d, .int .i64 i] W' fun e w' => e = .returned (.bool (Num.fitB O y (i + 1))) ∧ ∃ m, w' = W'.drewN m) :=
            Lib.hid fun B d y W' ⟨q, hq⟩ hB hy => by subst hq; exact sExp_any A0 B c0 d O y (i + 1) i _ HO.out hB hl hy HO1.out (by omega)
          have HL2 := Lib.hid hl2
          unfold maxLen at hl2
          cases hfit : Num.fitB O x (i + 1) with
          | false =>
            rw [hfit] at HE
            have HB := Lib.hid (HF0.out hfit)
            clear hfit
            go_wp2_with (fail)
            go_quiet ((go_at_call 104; exact quiet_drew fun W' hW' => HE.out W' ⟨_, hW'⟩))
            go_wp2_with (fail)
            go_ret
            exact ⟨ret_b HB.out.symm, by first | exact below_drewN b0 _ | (rw [World.drewN_drewN]; exact below_drewN b0 _)⟩
          | true =>
            rw [hfit] at HE
            have HNX := Lib.hid (HS1.out hfit)
            clear hfit
            by_cases hrl : r.length = O.length - 1 - i
            · have T4 : ((r.length : Int) != (O.length : Int) - 1 - (i : Int)) = false := by simp; omega
              have HRC : Hid ((∀ k, k < r.length → Num.fitB O (r.getD k []) (i + 1) = true) → Num.conB O i r = true) := Lib.hid fun h => Num.conB_ok hrl h
              have HRN : Hid (∀ k, k < r.length → Num.fitB O (r.getD k []) (i + 1) = false → Num.conB O i r = false) := Lib.hid fun k hk h => by
                cases hv : Num.conB O i r with
                | false => rfl
                | true => have := (Num.conB_out hv).2 k hk; rw [h] at this; cases this
              clear hrl
              go_wp2_with (fail)
              go_quiet ((go_at_call 104; exact quiet_drew fun W' hW' => HE.out W' ⟨_, hW'⟩))
              go_wp2_with (fail)
              clear T4 HE
              go_loopw [6] (fun s wr => ∃ k m : Nat, k ≤ r.length ∧ s = .int .i64 k ∧ Hid (∀ j, j < k → Num.fitB O (r.getD j []) (i + 1) = true) ∧ wr = W0.drewN m) (fun s _ => r.length - (intOf s).toNat)
              case atStart => exact ⟨0, _, by omega, rfl, Lib.hid fun j hj => by omega, by first | rfl | rw [World.drewN_drewN]⟩
              case round =>
                obtain ⟨k, m, hk, rfl, hf, rfl⟩ := hrel
                by_cases hlk : k < r.length
                · obtain ⟨g3, o3, B3, d3, rfl, hg3, hc3, hl3, hr3⟩ := hr2 k hlk
                  have k0 : (0 : Int) ≤ (k : Int) := by omega
                  have k1 : (k : Int) < (r.length : Int) := by omega
                  have HC1 := Lib.hid (HRN.out k hlk)
                  have HS3 : Hid (Num.fitB O (r.getD k []) (i + 1) = true → ∀ j, j < k + 1 → Num.fitB O (r.getD j []) (i + 1) = true) := Lib.hid fun h j hj' => by
                    rcases Nat.lt_succ_iff_lt_or_eq.mp hj' with h1 | rfl
                    · exact hf.out j h1
                    · exact h
                  have HE := Lib.hid (fun W' hq => HE2.out B3 d3 (r.getD k []) W' hq hr3 hl3)
                  clear hf hr3
                  generalize r.getD k [] = y at *
                  cases hfit : Num.fitB O y (i + 1) with
                  | false =>
                    rw [hfit] at HE
                    have HB := Lib.hid (HC0.out (HC1.out hfit))
                    clear hfit
                    go_wp2_with (fail)
                    go_quiet ((go_at_call 104; exact quiet_drew fun W' hW' => HE.out W' ⟨_, hW'⟩))
                    go_wp2_with (fail)
                    go_ret
                    exact ⟨ret_b HB.out.symm, by first | exact below_drewN b0 _ | (rw [World.drewN_drewN]; exact below_drewN b0 _)⟩
                  | true =>
                    rw [hfit] at HE
                    have HNY := Lib.hid (HS3.out hfit)
                    clear hfit
                    go_wp2_with (fail)
                    go_quiet ((go_at_call 104; exact quiet_drew fun W' hW' => HE.out W' ⟨_, hW'⟩))
                    go_wp2_with (fail)
                    exact ⟨⟨k + 1, _, by omega, by go_num, HNY, by first | rfl | rw [World.drewN_drewN]⟩, by simp [intOf]; omega⟩
                · have hge : ¬ ((k : Int) < (r.length : Int)) := by omega
                  obtain rfl : k = r.length := by omega
                  have HNZ := Lib.hid (HS2.out (HRC.out hf.out))
                  go_wp2_with (fail)
                  exact ⟨⟨i + 1, _, by omega, by go_num, HNX, HNZ, rfl⟩, by simp [intOf]; omega⟩
            · have T4 : ((r.length : Int) != (O.length : Int) - 1 - (i : Int)) = true := by simp; omega
              have HB : Hid (Num.preB O W J = false) := Lib.hid (HC0.out (by unfold Num.conB; rw [decide_eq_false hrl]; rfl))
              clear hrl
              go_wp2_with (fail)
              go_quiet ((go_at_call 104; exact quiet_drew fun W' hW' => HE.out W' ⟨_, hW'⟩))
              go_wp2_with (fail)
              go_ret
              exact ⟨ret_b HB.out.symm, by first | exact below_drewN b0 _ | (rw [World.drewN_drewN]; exact below_drewN b0 _)⟩
        · have hge : ¬ ((i : Int) < (O.length : Int)) := by omega
          obtain rfl : i = O.length := by omega
          have HB := Lib.hid (HY.out hf.out hj.out)
          go_wp2_with (fail)
          go_ret
          exact ⟨ret_b HB.out.symm, below_drewN b0 _⟩
set_option maxRecDepth 100000 in
set_option maxHeartbeats 2000000 in
theorem sIsPres_any (v : Value) (p : Pres) (w : World) (h : spPres.rd w v p) : Calls Try.prog 92 #[v] w (RetB p.ok w) := by
  obtain ⟨O, W, J⟩ := p
  obtain ⟨A0, c0, A1, c1, A2, c2, rfl, ⟨hO, hW, hJ⟩, m0, m1, m2⟩ := pres_open h
  replace hO : RdI w A0 O := hO
  replace hW : RdW w A1 W := hW
  replace hJ : RdX w A2 J := hJ
  replace m0 : O.length ≤ maxLen := m0
  replace m1 : W.length ≤ maxLen := m1
  replace m2 : J.length ≤ maxLen := m2
  show Calls Try.prog 92 #[.agg #[.slice A0 O.length c0, .slice A1 W.length c1, .slice A2 J.length c2]] w (RetB (Num.preB O W J) w)
  clear h
  have b0 : Below w.heap.size w (w.alloc (.cells #[.slice A0 O.length c0, .slice A1 W.length c1, .slice A2 J.length c2] 29)) := by go_grown
  have hl := m0
  unfold maxLen at m0 m1 m2
  by_cases h6 : O.length ≤ 6
  · have T3 : ¬ (6 < (O.length : Int)) := by omega
    by_cases eW : W.length = O.length
    · have T1 : ((W.length : Int) != (O.length : Int)) = false := by simp [eW]
      by_cases eJ : J.length = O.length
      · have T2 : ((J.length : Int) != (O.length : Int)) = false := by simp [eJ]
        cases hg : Num.gpsB O with
        | true =>
          by_cases hp : 729 < Num.prodZ O
          · have HB : Hid (Num.preB O W J = false) := Lib.hid (Num.preB_no fun hh => by have := (Num.ordC_zero hh.1).2.2; omega)
            have hgp := Num.gpsB_out hg
            have HG := Lib.hid hgp
            have e729 := (Num.prod7_of hg).2 hp
            have ho : ∀ j, j < O.length → 1 ≤ O.getD j 0 ∧ O.getD j 0 ≤ 7 := fun j hj => by have := Num.gpsB_at hg hj; omega
            have HO1 := Lib.hid ho
            have HO := Lib.hid (hO.below' b0)
            have BX := (Blk.new w [.slice A0 O.length c0, .slice A1 W.length c1, .slice A2 J.length c2] 29).c3
            clear hO hW hJ hg hp eW eJ ho hgp
            generalize hW0 : (w.alloc (.cells #[.slice A0 O.length c0, .slice A1 W.length c1, .slice A2 J.length c2] 29)) = W0 at *
            obtain ⟨bl, bx0, bx1, bx2⟩ := BX
            go_enter Try.func92, Try.ntmps92
            go_wp2_with (fail)
            clear hW0
            go_loop [4] (fun s => ∃ i : Nat, i ≤ O.length ∧ s = .int .i64 i) (fun s => O.length - (intOf s).toNat)
            case atStart => exact ⟨0, by omega, rfl⟩
            case round =>
              obtain ⟨i, hi, rfl⟩ := hrel
              clear T1 T2 T3
              by_cases hlt : i < O.length
              · obtain ⟨g, o, rfl, hg, hc⟩ := HO.out i hlt
                have i0 : (0 : Int) ≤ (i : Int) := by omega
                have i1 : (i : Int) < (O.length : Int) := by omega
                have HP := Lib.hid (sPrime_yes (O.getD i 0) W0 (HG.out i hlt))
                generalize O.getD i 0 = y at *
                go_wp2_with (fail)
                refine HP.out.mono ?_; rintro e w' ⟨rfl, rfl⟩
                go_wp2_with (fail)
                exact ⟨⟨i + 1, by omega, by go_num⟩, by simp [intOf]; omega⟩
              · have hge : ¬ ((i : Int) < (O.length : Int)) := by omega
                have HQ := Lib.hid (sProd7_any A0 c0 O W0 HO.out hl HO1.out)
                go_wp2_with (fail)
                refine HQ.out.mono ?_; rintro e w' ⟨rfl, rfl⟩
                go_wp2_with (fail)
                go_ret
                exact ⟨ret_b HB.out.symm, b0⟩
          · exact sIsPres_main A0 A1 A2 c0 c1 c2 O W J w hO hW hJ h6 hg hp eW eJ
        | false =>
          have HB : Hid (Num.preB O W J = false) := Lib.hid (Num.preB_no fun hh => by have := (Num.ordC_zero hh.1).2.1; rw [hg] at this; cases this)
          have HX : Hid ((∀ j, j < O.length → Num.gp (O.getD j 0) = true) → False) := Lib.hid fun hh => by rw [Num.gpsB_ok hh] at hg; cases hg
          have HO := Lib.hid (hO.below' b0)
          have BX := (Blk.new w [.slice A0 O.length c0, .slice A1 W.length c1, .slice A2 J.length c2] 29).c3
          clear hO hW hJ hg eW eJ
          generalize hW0 : (w.alloc (.cells #[.slice A0 O.length c0, .slice A1 W.length c1, .slice A2 J.length c2] 29)) = W0 at *
          obtain ⟨bl, bx0, bx1, bx2⟩ := BX
          go_enter Try.func92, Try.ntmps92
          go_wp2_with (fail)
          clear hW0
          go_loop [4] (fun s => ∃ i : Nat, i ≤ O.length ∧ s = .int .i64 i ∧ Hid (∀ j, j < i → Num.gp (O.getD j 0) = true)) (fun s => O.length - (intOf s).toNat)
          case atStart => exact ⟨0, by omega, rfl, Lib.hid fun j hj => by omega⟩
          case round =>
            obtain ⟨i, hi, rfl, hq⟩ := hrel
            clear T1 T2 T3
            by_cases hlt : i < O.length
            · obtain ⟨g, o, rfl, hg, hc⟩ := HO.out i hlt
              have i0 : (0 : Int) ≤ (i : Int) := by omega
              have i1 : (i : Int) < (O.length : Int) := by omega
              have HS : Hid (Num.gp (O.getD i 0) = true → ∀ j, j < i + 1 → Num.gp (O.getD j 0) = true) := Lib.hid fun h j hj' => by
                rcases Nat.lt_succ_iff_lt_or_eq.mp hj' with h1 | rfl
                · exact hq.out j h1
                · exact h
              clear hq
              generalize O.getD i 0 = y at *
              cases hy : Num.gp y with
              | true =>
                have HP := Lib.hid (sPrime_yes y W0 hy)
                have HQ := Lib.hid (HS.out hy)
                clear hy
                go_wp2_with (fail)
                refine HP.out.mono ?_; rintro e w' ⟨rfl, rfl⟩
                go_wp2_with (fail)
                exact ⟨⟨i + 1, by omega, by go_num, HQ⟩, by simp [intOf]; omega⟩
              | false =>
                have HP := Lib.hid (sPrime_no y W0 hy)
                clear hy
                go_wp2_with (fail)
                refine HP.out.mono ?_; rintro e w' ⟨rfl, rfl⟩
                go_wp2_with (fail)
                go_ret
                exact ⟨ret_b HB.out.symm, b0⟩
            · obtain rfl : i = O.length := by omega
              exact (HX.out hq.out).elim
      · have T2 : ((J.length : Int) != (O.length : Int)) = true := by simp; omega
        have HB : Hid (Num.preB O W J = false) := Lib.hid (Num.preB_no fun hh => eJ hh.2.2.1)
        clear hO hW hJ eW eJ
        go_enter Try.func92, Try.ntmps92
        go_wp2_with (fail)
        go_ret
        exact ⟨ret_b HB.out.symm, b0⟩
    · have T1 : ((W.length : Int) != (O.length : Int)) = true := by simp; omega
      have HB : Hid (Num.preB O W J = false) := Lib.hid (Num.preB_no fun hh => eW hh.2.1)
      clear hO hW hJ eW
      go_enter Try.func92, Try.ntmps92
      go_wp2_with (fail)
      go_ret
      exact ⟨ret_b HB.out.symm, b0⟩
  · have T3 : 6 < (O.length : Int) := by omega
    have HB : Hid (Num.preB O W J = false) := Lib.hid (Num.preB_no fun hh => by have := (Num.ordC_zero hh.1).1; omega)
    clear hO hW hJ
    go_enter Try.func92, Try.ntmps92
    go_wp2_with (fail)
    go_ret
    exact ⟨ret_b HB.out.symm, b0⟩
/-- The result of IsPresentation. -/
def rIsPresentation (x : Pres) : Bool := x.ok
theorem sIsPresentation_ok (v0 : Value) (x0 : Pres) (w : World) (h0 : spPres.rd w v0 x0) (s0 : spPres.sz x0 ≤ 1048576) : Calls Try.prog 92 #[v0] w (RetB (rIsPresentation x0) w) := sIsPres_any v0 x0 w h0
end Go.Proofs.Yteappjgdcbploaa
