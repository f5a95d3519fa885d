/- Collection of the program: isPositiveWord, collected. -/
import Derived.Test.YtahmhdpgdhfjnaaL13J
import Derived.Test.YtahmhdpgdhfjnaaL13I
namespace Go.Proofs.Ytahmhdpgdhfjnaa
open Go.RowKit
set_option linter.unusedVariables false
set_option linter.unusedSimpArgs false

theorem Pres.pos_eq {p : Pres} {x : List Int} (h : p.ok = true) (hn : p.O.length ≤ 6) : (Num.isW (p.O.length : Int) x && !Num.negB x) = p.pos x := by
  unfold Pres.pos
  rw [h, Bool.true_and]
  cases hp : Num.posB p.O.length 64 x with
  | true =>
    obtain ⟨h1, h2⟩ := Num.posB_out hp
    have a : Num.isW (p.O.length : Int) x = true := by
      unfold Num.isW
      rw [decide_eq_true ⟨by omega, by omega⟩, Bool.true_and]
      exact Num.isWB_pos h2 (by omega)
    have b : Num.negB x = false := decide_eq_false fun ⟨j, hj, hlt⟩ => by have := h2.at_ hj; omega
    rw [a, b]
    rfl
  | false =>
    cases a : Num.isW (p.O.length : Int) x with
    | false => rfl
    | true =>
      cases b : Num.negB x with
      | true => rfl
      | false =>
        exfalso
        unfold Num.isW at a
        rw [Bool.and_eq_true] at a
        obtain ⟨h1, h2⟩ := Num.isWB_iff.mp a.2
        have hb := of_decide_eq_false b
        have : Num.posB p.O.length 64 x = true := by
          unfold Num.posB
          rw [decide_eq_true (by omega), decide_eq_true (fun j hj => ?_)]
          · rfl
          · have h3 := h2 _ (List.getElem_mem hj)
            have h4 : ¬ x.getD j 0 < 0 := fun h => hb ⟨j, hj, h⟩
            rw [List.getD_eq_getElem?_getD, List.getElem?_eq_getElem hj] at h4 ⊢
            simp only [Option.getD_some] at h4 ⊢
            omega
        rw [hp] at this
        cases this
set_option maxRecDepth 100000 in
set_option maxHeartbeats 2000000 in
theorem iPos_any (A0 A1 A2 B : Option Addr) (c0 c1 c2 d : Nat) (O : List Int) (W : List (List Int)) (J : List (List (List Int))) (x : List Int) (w : World) (h0 : PresC w (.agg #[.slice A0 O.length c0, .slice A1 W.length c1, .slice A2 J.length c2]) ⟨O, W, J⟩) (hx : RdI w B x) (hl : x.length ≤ maxLen) :
    Calls Try.prog 67 #[.agg #[.slice A0 O.length c0, .slice A1 W.length c1, .slice A2 J.length c2], .slice B x.length d] w (RetB (Pres.pos ⟨O, W, J⟩ x) w) := by
  have b0 : Below w.heap.size w (w.alloc (.cells #[.slice A0 O.length c0, .slice A1 W.length c1, .slice A2 J.length c2] 28)) := by go_grown
  have BX := (Blk.new w [.slice A0 O.length c0, .slice A1 W.length c1, .slice A2 J.length c2] 28)
  have HI := Lib.hid (iIsPres_any _ ⟨O, W, J⟩ _ (h0.below b0))
  generalize hW0 : (w.alloc (.cells #[.slice A0 O.length c0, .slice A1 W.length c1, .slice A2 J.length c2] 28)) = W0 at *
  obtain ⟨bl, x0, x1, x2⟩ := BX.c3
  have HX := Lib.hid (hx.below' b0)
  cases hk : Pres.ok ⟨O, W, J⟩ with
  | true =>
    rw [hk] at HI
    have h6 : O.length ≤ 6 := (Pres.ok_out hk).1
    have HF : Hid ((Num.isW (O.length : Int) x && !Num.negB x) = Pres.pos ⟨O, W, J⟩ x) := Lib.hid (Pres.pos_eq hk h6)
    clear hk h0 hx
    go_enter Try.func67, Try.ntmps67
    go_wp2_with (fail)
    clear hW0
    refine HI.out.mono ?_; rintro e w1 ⟨rfl, hb1⟩
    have L1 := bstep b0 b0.size hb1
    obtain ⟨bl1, y0, y1, y2⟩ := (BX.below hb1).c3
    have HW := Lib.hid (isWord_any (O.length : Int) B d x w1 (HX.out.below' hb1) hl)
    clear HI x0 x1 x2
    cases hw : Num.isW (O.length : Int) x with
    | true =>
      rw [hw] at HW HF
      obtain ⟨hl64, -⟩ := Num.isWB_iff.mp (by unfold Num.isW at hw; rw [Bool.and_eq_true] at hw; exact hw.2)
      have HN := Lib.hid (neg_contains B d x w1 (HX.out.below' hb1) (by omega))
      clear hw
      generalize Num.negB x = nb at *
      go_wp2_with (fail)
      refine HW.out.mono ?_; rintro e w2 ⟨rfl, rfl⟩
      go_wp2_with (fail)
      refine HN.out.mono ?_; rintro e w2 ⟨rfl, rfl⟩
      cases nb with
      | true =>
        go_wp2_with (fail)
        go_ret
        exact ⟨ret_b HF.out, L1⟩
      | false =>
        go_wp2_with (fail)
        go_ret
        exact ⟨ret_b HF.out, L1⟩
    | false =>
      rw [hw, Bool.false_and] at HF
      rw [hw] at HW
      clear hw
      go_wp2_with (fail)
      refine HW.out.mono ?_; rintro e w2 ⟨rfl, rfl⟩
      go_wp2_with (fail)
      go_ret
      exact ⟨ret_b HF.out, L1⟩
  | false =>
    rw [hk] at HI
    have HF : Hid (Pres.pos ⟨O, W, J⟩ x = false) := Lib.hid (by unfold Pres.pos; rw [hk, Bool.false_and])
    clear hk h0 hx
    go_enter Try.func67, Try.ntmps67
    go_wp2_with (fail)
    clear hW0
    refine HI.out.mono ?_; rintro e w1 ⟨rfl, hb1⟩
    go_wp2_with (fail)
    go_ret
    exact ⟨ret_b HF.out.symm, bstep b0 b0.size hb1⟩
theorem stepCount_any (L : Int) (w : World) : Calls Try.prog 99 #[.int .i64 L] w fun e w' => e = .returned (.bool (Num.limB L)) ∧ w = w' := by
  by_cases h1 : 0 ≤ L
  · by_cases h2 : L ≤ 2000
    · have HF : Hid (Num.limB L = true) := Lib.hid (decide_eq_true ⟨h1, h2⟩)
      go_enter Try.func99, Try.ntmps99
      go_wp2_with (fail)
      go_ret
      exact ⟨ret_b HF.out.symm, rfl⟩
    · have HF : Hid (Num.limB L = false) := Lib.hid (decide_eq_false fun h => h2 h.2)
      have h2' : decide (L ≤ 2000) = false := decide_eq_false h2
      go_enter Try.func99, Try.ntmps99
      go_wp2_with (fail)
      go_ret
      exact ⟨ret_b HF.out.symm, rfl⟩
  · have HF : Hid (Num.limB L = false) := Lib.hid (decide_eq_false fun h => h1 h.1)
    have h2' : decide (0 ≤ L) = false := decide_eq_false h1
    go_enter Try.func99, Try.ntmps99
    go_wp2_with (fail)
    go_ret
    exact ⟨ret_b HF.out.symm, rfl⟩
/-! ### collected -/
def Num.cdR (O : List Int) (W : List (List Int)) (J : List (List (List Int))) (x : List Int) (L : Int) : List Int := if Num.limB L = true then Num.colR O.length (Num.colW O W J L.toNat x) else []
def Num.cdN (O : List Int) (W : List (List Int)) (J : List (List (List Int))) (x : List Int) (L : Int) : Int := if Num.limB L = true then Num.colS (Num.colW O W J L.toNat x) else 0
def Num.cdC (O : List Int) (W : List (List Int)) (J : List (List (List Int))) (x : List Int) (L : Int) : Int := if Num.limB L = true then Num.nfC (Num.colW O W J L.toNat x) else 2
theorem Num.sums_ok {n : Nat} {y : List Int} (hn : n ≤ 6) (hp : Num.PosW n y) (hl : y.length ≤ 64) : rExponentSums (n : Int) y = Num.sumW (n : Int) y ∧ cExponentSums (n : Int) y = 0 := by
  have h : Num.codeW (n : Int) [y] = 0 := by
    have := Num.isWB_pos hp hl
    simp [Num.codeW, this]
    omega
  exact ⟨if_pos h, h⟩
set_option maxRecDepth 100000 in
set_option maxHeartbeats 2000000 in
theorem collected_any (A0 A1 A2 B : Option Addr) (c0 c1 c2 d : Nat) (O : List Int) (W : List (List Int)) (J : List (List (List Int))) (x : List Int) (L : Int) (w : World) (hO : RdI w A0 O) (hW : RdW w A1 W) (hJ : RdX w A2 J) (hpre : Num.preB O W J = true) (hx : RdI w B x) (hl : x.length ≤ 256) (hd : x.length ≤ d) (hp : Num.PosW O.length x) :
    Calls Try.prog 91 #[.agg #[.slice A0 O.length c0, .slice A1 W.length c1, .slice A2 J.length c2], .slice B x.length d, .int .i64 L] w (MadeNC spI (Num.cdR O W J x L) (Num.cdN O W J x L) (Num.cdC O W J x L) w) := by
  have h6 := (Num.V9.of hpre).n6
  have b0 : Below w.heap.size w (w.alloc (.cells #[.slice A0 O.length c0, .slice A1 W.length c1, .slice A2 J.length c2] 28)) := by go_grown
  have BX := (Blk.new w [.slice A0 O.length c0, .slice A1 W.length c1, .slice A2 J.length c2] 28)
  generalize hW0 : (w.alloc (.cells #[.slice A0 O.length c0, .slice A1 W.length c1, .slice A2 J.length c2] 28)) = W0 at *
  obtain ⟨bl, x0, x1, x2⟩ := BX.c3
  have HS := Lib.hid (stepCount_any L W0)
  cases hL : Num.limB L with
  | true =>
    rw [hL] at HS
    have hL2 : 0 ≤ L ∧ L ≤ 2000 := of_decide_eq_true hL
    obtain ⟨l, rfl⟩ := Int.eq_ofNat_of_zero_le hL2.1
    have HR : Hid (Num.cdR O W J x (l : Int) = Num.colR O.length (Num.colW O W J l x) ∧ Num.cdN O W J x (l : Int) = Num.colS (Num.colW O W J l x) ∧ Num.cdC O W J x (l : Int) = Num.nfC (Num.colW O W J l x)) := Lib.hid ⟨if_pos hL, if_pos hL, if_pos hL⟩
    have HCO := Lib.hid (collectorOf_any A0 A1 A2 c0 c1 c2 O W J W0 (hO.below' b0) (hW.below' b0) (hJ.below' b0) hpre)
    have HNF : Hid (∀ (A : Option Addr) (c : Nat) W', Below w.heap.size w W' → RulesRd W' A (Num.rels O W J) → Calls Try.prog 100 #[.slice A (Num.rels O W J).length c, .slice B x.length d, .int .i64 (l : Int)] W' (NForm (Num.colW O W J l x) W')) :=
      Lib.hid fun A c W' hb hr => normalForm_any A B c d l O W J x W' hpre hr (hx.below' hb) hl hd hp (by omega)
    have HY : Hid (∀ r, Num.colW O W J l x = some r → Num.PosW O.length r.1 ∧ r.1.length ≤ 36) := Lib.hid fun r hr => by
      obtain ⟨h1, -⟩ := Num.colW_nor (Num.V9.of hpre) l x hp r hr
      exact ⟨h1.1, h1.len (Num.V9.of hpre)⟩
    clear hO hW hJ hpre hx hp hL
    generalize Num.colW O W J l x = T at *
    generalize (Num.rels O W J) = qs at *
    unfold NForm at HNF
    cases T with
    | some r =>
      obtain ⟨y, s⟩ := r
      obtain ⟨hy1, hy2⟩ := HY.out _ rfl
      simp only at hy1 hy2
      have e1 : Num.nfW (some (y, s)) = y := rfl
      have e2 : Num.colS (some (y, s)) = (s : Int) := rfl
      have e3 : Num.nfC (some (y, s)) = 0 := rfl
      have e4 : Num.colR O.length (some (y, s)) = Num.sumW (O.length : Int) y := rfl
      rw [e1, e2, e3] at HNF
      rw [e2, e3, e4] at HR
      have HSU := Lib.hid (Num.sums_ok h6 hy1 (by omega))
      clear e1 e2 e3 e4 HY hy1
      go_enter Try.func91, Try.ntmps91
      go_wp2_with (fail)
      clear hW0
      refine HS.out.mono ?_; rintro e w' ⟨rfl, rfl⟩
      go_wp2_with (fail)
      refine HCO.out.mono ?_; rintro e w1 ⟨A, c, rfl, hqc, hr, hb1⟩
      have L1 := bstep b0 b0.size hb1
      have BX1 := BX.below hb1
      have HN1 := Lib.hid (HNF.out A c w1 L1 hr)
      clear HS HCO HNF x0 x1 x2 hr
      go_wp2_with (fail)
      refine HN1.out.mono ?_; rintro e w2 ⟨B2, d2, rfl, hr2, hd2, hb2⟩
      have L2 := bstep L1 L1.size hb2
      obtain ⟨bl2, y0, y1, y2⟩ := (BX1.below hb2).c3
      have HE := Lib.hid (iExponentSums_any (O.length : Int) (.slice B2 y.length d2) y w2 ⟨B2, d2, rfl, by unfold maxLen; omega, hr2⟩)
      rw [HSU.out.1, HSU.out.2] at HE
      clear HN1 hr2 HSU
      go_wp2_with (fail)
      refine HE.out.mono ?_; rintro e w3 ⟨u3, S3, rfl, ow3, hS3, hc3, hb3⟩
      have HO3 := Lib.hid ow3
      clear ow3
      go_wp2_with (fail)
      go_ret3
      rw [HR.out.1, HR.out.2.1, HR.out.2.2]
      exact ⟨u3, S3, rfl, HO3.out, fun k hk => Nat.le_trans L2.size (hS3 k hk), hc3, bstep L2 L2.size hb3⟩
    | none =>
      have e1 : Num.nfW none = [] := rfl
      have e2 : Num.colS none = 0 := rfl
      have e3 : Num.nfC none = 3 := rfl
      have e4 : Num.colR O.length none = [] := rfl
      rw [e1, e2, e3] at HNF
      rw [e2, e3, e4] at HR
      clear e1 e2 e3 e4 HY
      go_enter Try.func91, Try.ntmps91
      go_wp2_with (fail)
      clear hW0
      refine HS.out.mono ?_; rintro e w' ⟨rfl, rfl⟩
      go_wp2_with (fail)
      refine HCO.out.mono ?_; rintro e w1 ⟨A, c, rfl, hqc, hr, hb1⟩
      have L1 := bstep b0 b0.size hb1
      have HN1 := Lib.hid (HNF.out A c w1 L1 hr)
      clear HS HCO HNF x0 x1 x2 hr
      go_wp2_with (fail)
      refine HN1.out.mono ?_; rintro e w2 ⟨B2, d2, rfl, hr2, hd2, hb2⟩
      go_wp2_with (fail)
      go_ret3
      rw [HR.out.1, HR.out.2.1, HR.out.2.2]
      exact MadeNC.nil (bstep L1 L1.size hb2)
  | false =>
    rw [hL] at HS
    have hL' : ¬ Num.limB L = true := by rw [hL]; simp
    have HR : Hid (Num.cdR O W J x L = [] ∧ Num.cdN O W J x L = 0 ∧ Num.cdC O W J x L = 2) := Lib.hid ⟨if_neg hL', if_neg hL', if_neg hL'⟩
    clear hO hW hJ hpre hx hp hL hL'
    go_enter Try.func91, Try.ntmps91
    go_wp2_with (fail)
    clear hW0
    refine HS.out.mono ?_; rintro e w' ⟨rfl, rfl⟩
    go_wp2_with (fail)
    go_ret3
    rw [HR.out.1, HR.out.2.1, HR.out.2.2]
    exact MadeNC.nil b0
end Go.Proofs.Ytahmhdpgdhfjnaa
