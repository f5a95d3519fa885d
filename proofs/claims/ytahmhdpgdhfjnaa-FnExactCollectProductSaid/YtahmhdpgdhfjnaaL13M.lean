/- Collection: CollectProduct of the program. -/
import Derived.Test.YtahmhdpgdhfjnaaL13K
import Derived.Test.YtahmhdpgdhfjnaaL11I
namespace Go.Proofs.Ytahmhdpgdhfjnaa
open Go.RowKit
set_option linter.unusedVariables false
set_option linter.unusedSimpArgs false

def Pres.two (p : Pres) (a b : List Int) : Bool := rIsExponentVector p a && rIsExponentVector p b
def rCollectProduct (p : Pres) (a b : List Int) (L : Int) : List Int := if p.two a b = true then Num.cdR p.O p.W p.J (Num.wrd a ++ Num.wrd b) L else []
def cCollectProduct (p : Pres) (a b : List Int) (L : Int) : Int := if p.two a b = true then Num.cdC p.O p.W p.J (Num.wrd a ++ Num.wrd b) L else 1
theorem Pres.vec_out {p : Pres} {a : List Int} (h : rIsExponentVector p a = true) : p.ok = true ∧ a.length = p.O.length ∧ a.length ≤ 6 ∧ (∀ j, j < a.length → 0 ≤ a.getD j 0 ∧ a.getD j 0 ≤ 64) ∧ (Num.wrd a).length ≤ 36 ∧ Num.PosW p.O.length (Num.wrd a) := by
  obtain ⟨h1, h2, h3, h4⟩ := Pres.fit_bd h
  obtain ⟨e1, e2⟩ := Num.fitB_out h2
  obtain ⟨-, hg, -⟩ := Pres.ok_out h1
  refine ⟨h1, e1, h3, h4, ?_, ?_⟩
  · have := Num.wrdTo_len6 a (fun j hj => by
      have f := e2 j hj
      unfold Num.Fit at f
      have g := Num.gpsB_at hg (j := j) (by omega)
      exact ⟨f.1, by omega⟩) _ (Nat.le_refl _)
    unfold Num.wrd
    omega
  · have := Num.wrd_pos a
    rwa [e1] at this
set_option maxRecDepth 100000 in
set_option maxHeartbeats 800000 in
theorem iCollectProduct_ok (v0 : Value) (p : Pres) (v1 : Value) (a : List Int) (v2 : Value) (b : List Int) (L : Int) (w : World) (h0 : PresC w v0 p) (h1 : spI.rd w v1 a) (h2 : spI.rd w v2 b) (s0 : spPres.sz p ≤ 1048576) (s1 : spI.sz a ≤ 1048576) (s2 : spI.sz b ≤ 1048576) :
    Calls Try.prog 47 #[v0, v1, v2, .int .i64 L] w (MadeC spI (rCollectProduct p a b L) (cCollectProduct p a b L) w) := by
  obtain ⟨O, W, J⟩ := p
  have h0' := h0
  obtain ⟨A0, c0, A1, c1, A2, c2, rfl, ⟨hO, hW, hJ⟩, m0, m1, m2, hc0⟩ := h0
  replace hO : RdI w A0 O := hO
  replace hW : RdW w A1 W := hW
  replace hJ : RdX w A2 J := hJ
  simp only at h0' m0 ⊢
  have b0 : Below w.heap.size w (w.alloc (.cells #[.slice A0 O.length c0, .slice A1 W.length c1, .slice A2 J.length c2] 28)) := by go_grown
  have BX := (Blk.new w [.slice A0 O.length c0, .slice A1 W.length c1, .slice A2 J.length c2] 28)
  have HIA := Lib.hid (iIsExp_any _ v1 ⟨O, W, J⟩ a _ (h0'.below b0) (spI.rd_below h1 b0))
  have HIB : Hid (∀ W', Below w.heap.size w W' → Calls Try.prog 94 #[.agg #[.slice A0 O.length c0, .slice A1 W.length c1, .slice A2 J.length c2], v2] W' (RetB (rIsExponentVector ⟨O, W, J⟩ b) W')) := Lib.hid fun W' hb => iIsExp_any _ v2 ⟨O, W, J⟩ b W' (h0'.below hb) (spI.rd_below h2 hb)
  obtain ⟨B1, d1, rfl, hl1, hx1⟩ := h1
  obtain ⟨B2, d2, rfl, hl2, hx2⟩ := h2
  generalize hW0 : (w.alloc (.cells #[.slice A0 O.length c0, .slice A1 W.length c1, .slice A2 J.length c2] 28)) = W0 at *
  obtain ⟨bl, x0, x1, x2⟩ := BX.c3
  unfold RetB at HIA HIB
  cases hva : rIsExponentVector ⟨O, W, J⟩ a with
  | true =>
    rw [hva] at HIA
    cases hvb : rIsExponentVector ⟨O, W, J⟩ b with
    | true =>
      rw [hvb] at HIB
      have htw : Pres.two ⟨O, W, J⟩ a b = true := by unfold Pres.two; rw [hva, hvb]; rfl
      have HR : Hid (rCollectProduct ⟨O, W, J⟩ a b L = Num.cdR O W J (Num.wrd a ++ Num.wrd b) L ∧ cCollectProduct ⟨O, W, J⟩ a b L = Num.cdC O W J (Num.wrd a ++ Num.wrd b) L) := Lib.hid ⟨if_pos htw, if_pos htw⟩
      obtain ⟨hpre, ea, la, ba, wa, pa⟩ := Pres.vec_out hva
      obtain ⟨-, eb, lb, bb, wb, pb⟩ := Pres.vec_out hvb
      replace hpre : Num.preB O W J = true := hpre
      have HWA : Hid (∀ W', Below w.heap.size w W' → _) := Lib.hid fun W' hb => iWord_any B1 d1 a W' (hx1.below' hb) (by omega) ba
      have HWB : Hid (∀ W', Below w.heap.size w W' → _) := Lib.hid fun W' hb => iWord_any B2 d2 b W' (hx2.below' hb) (by omega) bb
      have HCD : Hid (∀ (C : Option Addr) (d : Nat) W', Below w.heap.size w W' → RdI W' C (Num.wrd a ++ Num.wrd b) → (Num.wrd a ++ Num.wrd b).length ≤ d → _) := Lib.hid fun C d W' hb hr hd => collected_any A0 A1 A2 C c0 c1 c2 d O W J (Num.wrd a ++ Num.wrd b) L W' (hO.below' hb) (hW.below' hb) (hJ.below' hb) hpre hr (by rw [List.length_append]; omega) hd (Num.PosW.app pa pb)
      clear ea eb hO hW hJ hpre pa pb hva hvb htw ba bb hx1 hx2 h0'
      unfold MadeNC at HCD
      generalize Num.cdR O W J (Num.wrd a ++ Num.wrd b) L = R at *
      generalize Num.cdN O W J (Num.wrd a ++ Num.wrd b) L = N at *
      generalize Num.cdC O W J (Num.wrd a ++ Num.wrd b) L = C at *
      generalize Num.wrd a = ya at *
      generalize Num.wrd b = yb at *
      go_enter Try.func47, Try.ntmps47
      go_wp2_with (fail)
      clear hW0
      refine HIA.out.mono ?_; rintro e w1 ⟨rfl, hb1⟩
      have L1 := bstep b0 b0.size hb1
      have BX1 := BX.below hb1
      obtain ⟨bl1, y0, y1, y2⟩ := BX1.c3
      have HB1 := Lib.hid (HIB.out w1 L1)
      clear HIA HIB x0 x1 x2
      go_wp2_with (fail)
      refine HB1.out.mono ?_; rintro e w2 ⟨rfl, hb2⟩
      have L2 := bstep L1 L1.size hb2
      have BX2 := BX1.below hb2
      have HA2 := Lib.hid (HWA.out w2 L2)
      clear HB1 HWA y0 y1 y2
      go_wp2_with (fail)
      refine HA2.out.mono ?_; rintro e w3 ⟨u3, rfl, ow3, hb3⟩
      have L3 := bstep L2 L2.size hb3
      have BX3 := BX2.below hb3
      have HB3 := Lib.hid (HWB.out w3 L3)
      clear HA2 HWB
      go_wp2_with (fail)
      refine HB3.out.mono ?_; rintro e w4 ⟨u4, rfl, ow4, hb4⟩
      have L4 := bstep L3 L3.size hb4
      obtain ⟨C3, n3, d3, rfl, e3⟩ := ow3.formN
      obtain ⟨C4, n4, d4, rfl, e4⟩ := ow4.formN
      have BA : Below w4.heap.size w4 (w4.alloc (.cells #[.slice C3 n3 d3, .slice C4 n4 d4] 24)) := by go_grown
      have BK := (Blk.new w4 [.slice C3 n3 d3, .slice C4 n4 d4] 24).c2
      have L4a := bstep L4 L4.size BA
      have BX4 := (BX3.below hb4).below BA
      have HCC := Lib.hid (concatI_any (.slice C3 n3 d3) (.slice C4 n4 d4) ya yb w4.heap.size (w4.alloc (.cells #[.slice C3 n3 d3, .slice C4 n4 d4] 24)) ⟨C3, d3, by rw [e3], by unfold maxLen; omega, ((ow3.below hb4).below BA).reads⟩ ⟨C4, d4, by rw [e4], by unfold maxLen; omega, (ow4.below BA).reads⟩ (by omega) BK.2.1 BK.2.2)
      clear HB3 ow3 ow4 BK
      go_wp2_with (fail)
      refine HCC.out.mono ?_; rintro e w5 ⟨u5, rfl, ow5, hb5⟩
      obtain ⟨C5, d5, rfl, hd5⟩ := ow5.capN
      have L5 := bstep L4a L4a.size hb5
      obtain ⟨bl5, y0, y1, y2⟩ := (BX4.below hb5).c3
      have HD5 := Lib.hid (HCD.out C5 d5 w5 L5 ow5.reads hd5)
      clear HCC HCD ow5 hd5
      generalize hn5 : (ya ++ yb).length = n5 at *
      clear hn5
      go_wp2_with (fail)
      refine HD5.out.mono ?_; rintro e w6 ⟨u6, S6, rfl, ow6, hS6, hc6, hb6⟩
      have HO6 := Lib.hid ow6
      clear ow6 HD5
      go_wp2_with (fail)
      go_ret2
      rw [HR.out.1, HR.out.2]
      exact ⟨u6, S6, rfl, HO6.out, fun k hk => Nat.le_trans L5.size (hS6 k hk), hc6, bstep L5 L5.size hb6⟩
    | false =>
      rw [hvb] at HIB
      have htw : ¬ Pres.two ⟨O, W, J⟩ a b = true := by unfold Pres.two; rw [hvb, Bool.and_false]; simp
      have HR : Hid (rCollectProduct ⟨O, W, J⟩ a b L = [] ∧ cCollectProduct ⟨O, W, J⟩ a b L = 1) := Lib.hid ⟨if_neg htw, if_neg htw⟩
      clear hO hW hJ hva hvb htw hx1 hx2 h0'
      go_enter Try.func47, Try.ntmps47
      go_wp2_with (fail)
      clear hW0
      refine HIA.out.mono ?_; rintro e w1 ⟨rfl, hb1⟩
      have L1 := bstep b0 b0.size hb1
      obtain ⟨bl1, y0, y1, y2⟩ := (BX.below hb1).c3
      have HB1 := Lib.hid (HIB.out w1 L1)
      clear HIA HIB x0 x1 x2
      go_wp2_with (fail)
      refine HB1.out.mono ?_; rintro e w2 ⟨rfl, hb2⟩
      go_wp2_with (fail)
      go_ret2
      rw [HR.out.1, HR.out.2]
      exact MadeC.nilW (bstep L1 L1.size hb2)
  | false =>
    rw [hva] at HIA
    have htw : ¬ Pres.two ⟨O, W, J⟩ a b = true := by unfold Pres.two; rw [hva, Bool.false_and]; simp
    have HR : Hid (rCollectProduct ⟨O, W, J⟩ a b L = [] ∧ cCollectProduct ⟨O, W, J⟩ a b L = 1) := Lib.hid ⟨if_neg htw, if_neg htw⟩
    clear hO hW hJ hva htw hx1 hx2 h0'
    go_enter Try.func47, Try.ntmps47
    go_wp2_with (fail)
    clear hW0
    refine HIA.out.mono ?_; rintro e w1 ⟨rfl, hb1⟩
    go_wp2_with (fail)
    go_ret2
    rw [HR.out.1, HR.out.2]
    exact MadeC.nilW (bstep b0 b0.size hb1)
end Go.Proofs.Ytahmhdpgdhfjnaa
