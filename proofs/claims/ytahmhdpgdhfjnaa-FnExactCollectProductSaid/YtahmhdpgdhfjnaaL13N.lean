/- Collection: CollectProduct of the model. -/
import Derived.Test.YtahmhdpgdhfjnaaL13M
import Derived.Test.YtahmhdpgdhfjnaaL13D
import Derived.Deep.DeepCutAuto
namespace Go.Proofs.Ytahmhdpgdhfjnaa
open Go.RowKit
set_option linter.unusedVariables false
set_option linter.unusedSimpArgs false

set_option maxRecDepth 100000 in
set_option maxHeartbeats 2000000 in
theorem sCollectProduct_ok (v0 : Value) (p : Pres) (v1 : Value) (a : List Int) (v2 : Value) (b : List Int) (L : Int) (w : World) (h0 : spPres.rd w v0 p) (h1 : spI.rd w v1 a) (h2 : spI.rd w v2 b) (s0 : spPres.sz p ≤ 1048576) (s1 : spI.sz a ≤ 1048576) (s2 : spI.sz b ≤ 1048576) :
    Calls Try.prog 46 #[v0, v1, v2, .int .i64 L] w (MadeC spI (rCollectProduct p a b L) (cCollectProduct p a b L) w) := by
  obtain ⟨O, W, J⟩ := p
  have h0' := h0
  obtain ⟨A0, c0, A1, c1, A2, c2, rfl, ⟨hO, hW, hJ⟩, m0, -, -⟩ := pres_open h0
  replace hO : RdI w A0 O := hO
  replace hW : RdW w A1 W := hW
  replace hJ : RdX w A2 J := hJ
  simp only at h0' h0 m0 ⊢
  have b0 : Below w.heap.size w (w.alloc (.cells #[.slice A0 O.length c0, .slice A1 W.length c1, .slice A2 J.length c2] 28)) := by go_grown
  have BX := (Blk.new w [.slice A0 O.length c0, .slice A1 W.length c1, .slice A2 J.length c2] 28)
  have HIA := Lib.hid (sIsExp_any _ v1 ⟨O, W, J⟩ a _ (spPres.rd_below h0' b0) (spI.rd_below h1 b0))
  have HIB : Hid (∀ W', Below w.heap.size w W' → Calls Try.prog 92 #[.agg #[.slice A0 O.length c0, .slice A1 W.length c1, .slice A2 J.length c2], v2] W' (RetB (rIsExponentVector ⟨O, W, J⟩ b) W')) := Lib.hid fun W' hb => sIsExp_any _ v2 ⟨O, W, J⟩ b W' (spPres.rd_below h0' hb) (spI.rd_below h2 hb)
  obtain ⟨B1, d1, rfl, hl1, hx1⟩ := h1
  obtain ⟨B2, d2, rfl, hl2, hx2⟩ := h2
  generalize hW0 : (w.alloc (.cells #[.slice A0 O.length c0, .slice A1 W.length c1, .slice A2 J.length c2] 28)) = W0 at *
  obtain ⟨bl, x0, x1, x2⟩ := BX.c3
  unfold RetB at HIA HIB
  cases hva : rIsExponentVector ⟨O, W, J⟩ a with
  | true =>
    rw [hva] at HIA
    cases hvb : rIsExponentVector ⟨O, W, J⟩ b with
    | true =>
      rw [hvb] at HIB
      have htw : Pres.two ⟨O, W, J⟩ a b = true := by unfold Pres.two; rw [hva, hvb]; rfl
      have HR : Hid (rCollectProduct ⟨O, W, J⟩ a b L = Num.cdR O W J (Num.wrd a ++ Num.wrd b) L ∧ cCollectProduct ⟨O, W, J⟩ a b L = Num.cdC O W J (Num.wrd a ++ Num.wrd b) L) := Lib.hid ⟨if_pos htw, if_pos htw⟩
      obtain ⟨hpre, ea, la, ba, wa, pa⟩ := Pres.vec_out hva
      obtain ⟨-, eb, lb, bb, wb, pb⟩ := Pres.vec_out hvb
      replace hpre : Num.preB O W J = true := hpre
      cases hL : Num.limB L with
      | true =>
        have hL2 : 0 ≤ L ∧ L ≤ 2000 := of_decide_eq_true hL
        obtain ⟨l, rfl⟩ := Int.eq_ofNat_of_zero_le hL2.1
        have HR2 : Hid (rCollectProduct ⟨O, W, J⟩ a b (l : Int) = Num.colR O.length (Num.colW O W J l (Num.wrd a ++ Num.wrd b)) ∧ cCollectProduct ⟨O, W, J⟩ a b (l : Int) = Num.nfC (Num.colW O W J l (Num.wrd a ++ Num.wrd b))) := Lib.hid ⟨by rw [HR.out.1]; exact if_pos hL, by rw [HR.out.2]; exact if_pos hL⟩
        have HI2 := Lib.hid (sIn_yes (l : Int) 0 2000 · hL2.1 hL2.2)
        have HWA : Hid (∀ W', Below w.heap.size w W' → _) := Lib.hid fun W' hb => sWord7_any B1 d1 a W' (hx1.below' hb) (by omega) ba
        have HWB : Hid (∀ W', Below w.heap.size w W' → _) := Lib.hid fun W' hb => sWord7_any B2 d2 b W' (hx2.below' hb) (by omega) bb
        have HCD : Hid (∀ (C : Option Addr) (d : Nat) W', Below w.heap.size w W' → RdI W' C (Num.wrd a ++ Num.wrd b) → _) := Lib.hid fun C d W' hb hr => sCollect_any A0 A1 A2 C c0 c1 c2 d l O W J (Num.wrd a ++ Num.wrd b) W' (Num.V9.of hpre) (hO.below' hb) (hW.below' hb) (hJ.below' hb) hr (by rw [List.length_append]; omega) (Num.PosW.app pa pb) (by omega)
        have hcl := Num.colR_len O.length (Num.colW O W J l (Num.wrd a ++ Num.wrd b))
        have h6 := (Num.V9.of hpre).n6
        clear ea eb hO hW hJ hpre pa pb hva hvb htw ba bb hx1 hx2 h0' h0 HR hL hL2
        generalize Num.colW O W J l (Num.wrd a ++ Num.wrd b) = T at *
        generalize Num.wrd a = ya at *
        generalize Num.wrd b = yb at *
        go_enter Try.func46, Try.ntmps46
        go_wp2_with (fail)
        clear hW0
        refine HIA.out.mono ?_; rintro e w1 ⟨rfl, hb1⟩
        have L1 := bstep b0 b0.size hb1
        have BX1 := BX.below hb1
        obtain ⟨bl1, y0, y1, y2⟩ := BX1.c3
        have HB1 := Lib.hid (HIB.out w1 L1)
        clear HIA HIB x0 x1 x2
        go_wp2_with (fail)
        refine HB1.out.mono ?_; rintro e w2 ⟨rfl, hb2⟩
        have L2 := bstep L1 L1.size hb2
        have BX2 := BX1.below hb2
        clear HB1 y0 y1 y2
        go_wp2_with (fail)
        refine (HI2.out w2).mono ?_; rintro e w3 ⟨rfl, rfl⟩
        obtain ⟨blD, q0, q1, q2⟩ := BX2.drew.c3
        have LD : Below w.heap.size w w2.drew := L2.drew
        have SC : Below w2.drew.heap.size w2.drew w2.drew := Below.refl _ _
        have HBX := Lib.hid BX2.drew
        generalize hXD : w2.drew = XD at *
        have SM : ∀ {W'}, Below XD.heap.size XD W' → W'.cell? ⟨w.heap.size, 0, none⟩ = some (.slice A0 O.length c0) ∧ W'.cell? ⟨w.heap.size, 1, none⟩ = some (.slice A1 W.length c1) ∧ W'.cell? ⟨w.heap.size, 2, none⟩ = some (.slice A2 J.length c2) := fun hb => (HBX.out.below hb).c3.2
        go_wp2_with (fail)
        refine wp_region_held_drew (S := fun W' => W'.cell? ⟨w.heap.size, 0, none⟩ = some (.slice A0 O.length c0) ∧ W'.cell? ⟨w.heap.size, 1, none⟩ = some (.slice A1 W.length c1) ∧ W'.cell? ⟨w.heap.size, 2, none⟩ = some (.slice A2 J.length c2)) (by kernel_rfl) (by rw [hXD]; exact SM SC) (fun _ => ?_)
        rw [hXD]
        clear hXD
        refine wpAnyH_take (i := 0) (v := ?_) rfl (by kernel_rfl) (by kernel_rfl) (by kernel_rfl) (fun _ _ _ h => h) (Or.inl ⟨by rfl, ?_⟩) (SM SC) ?_
        rotate_left
        · rintro W9 ⟨y0, y1, y2⟩
          go_simp
          with_reducible rfl
        refine wpAnyH_take (i := 1) (v := ?_) rfl (by kernel_rfl) (by kernel_rfl) (by kernel_rfl) (fun _ _ _ h => h) (Or.inl ⟨by rfl, ?_⟩) (SM SC) ?_
        rotate_left
        · rintro W9 ⟨y0, y1, y2⟩
          go_simp
          with_reducible rfl
        refine wpAnyH_take (i := 3) (v := ?_) rfl (by kernel_rfl) (by kernel_rfl) (by kernel_rfl) (fun _ _ _ h => h) (Or.inl ⟨by rfl, ?_⟩) (SM SC) ?_
        rotate_left
        · rintro W9 ⟨y0, y1, y2⟩
          go_simp
          with_reducible rfl
        refine wpAnyH_take (i := 6) (v := ?_) rfl (by kernel_rfl) (by kernel_rfl) (by kernel_rfl) (fun _ _ _ h => h) (Or.inl ⟨by rfl, ?_⟩) (SM SC) ?_
        rotate_left
        · rintro W9 ⟨y0, y1, y2⟩
          go_simp
          with_reducible rfl
        refine wpAnyH_ready (rs := [2]) (by kernel_rfl) (by simp) ?_
        refine (AllReadyH.cons rfl (fun K hK => ?_) AllReadyH.nil)
        go_simp
        refine (HWA.out XD LD).mono ?_; rintro e w4 ⟨u4, rfl, ow4, hb4⟩
        have SC := bstep SC SC.size hb4
        have LD4 := bstep LD LD.size hb4
        obtain ⟨C4, n4, d4, rfl, e4⟩ := ow4.formN
        refine hK.out _ _ (SM SC) (fun _ => ?_)
        clear hK K HWA
        refine wpAnyH_ready (rs := [4]) (by kernel_rfl) (by simp) ?_
        refine (AllReadyH.cons rfl (fun K hK => ?_) AllReadyH.nil)
        go_simp
        refine (HWB.out w4 LD4).mono ?_; rintro e w5 ⟨u5, rfl, ow5, hb5⟩
        have SC := bstep SC SC.size hb5
        have LD5 := bstep LD4 LD4.size hb5
        have ow4' := (ow4.below hb5).base_ LD.size
        obtain ⟨C5, n5, d5, rfl, e5⟩ := ow5.formN
        refine hK.out _ _ (SM SC) (fun _ => ?_)
        clear hK K HWB
        refine wpAnyH_ready (rs := [5]) (by kernel_rfl) (by simp) ?_
        refine (AllReadyH.cons rfl (fun K hK => ?_) AllReadyH.nil)
        refine step_app_ints9 w5 rfl _ _ 24 rfl Try.underlying24 XD.heap.size (.slice C4 n4 d4) ya yb rfl (ow4.below hb5) C5 n5 d5 e5 rfl ow5.reads (by omega) SC.size ?_
        intro v6 w6 ow6 gr6 at6
        obtain ⟨C6, d6, rfl, hd6⟩ := ow6.capN
        have LD6 : Below w.heap.size w w6 := LD5.grown gr6 LD5.size ow4'.base_le
        have SC : Below XD.heap.size XD w6 := SC.grown gr6 SC.size (ow4.below hb5).base_le
        have HCW := Lib.hid (HCD.out C6 d6 w6 LD6 ow6.reads)
        clear HCD gr6 at6 ow4 ow4' ow5 ow6
        generalize hn6 : (ya ++ yb).length = n6 at *
        refine hK.out _ _ (SM SC) (fun _ => ?_)
        clear hK K hn6
        refine wpAnyH_ready (rs := [7]) (by kernel_rfl) (by simp) ?_
        refine (AllReadyH.cons rfl (fun K hK => ?_) AllReadyH.nil)
        go_simp
        refine HCW.out.mono ?_; rintro e w7 ⟨u7, rfl, ow7, hb7⟩
        have SC := bstep SC SC.size hb7
        refine hK.out _ _ (SM SC) (fun _ => ?_)
        clear hK K HCW
        refine wpAnyH_take (i := 8) (v := ?_) rfl (by kernel_rfl) (by kernel_rfl) (by kernel_rfl) (fun _ _ _ h => h) (Or.inl ⟨by rfl, ?_⟩) (SM SC) ?_
        rotate_left
        · rintro W9 ⟨y0, y1, y2⟩
          go_simp
          with_reducible rfl
        refine wpAnyH_take (i := 9) (v := ?_) rfl (by kernel_rfl) (by kernel_rfl) (by kernel_rfl) (fun _ _ _ h => h) (Or.inl ⟨by rfl, ?_⟩) (SM SC) ?_
        rotate_left
        · rintro W9 ⟨y0, y1, y2⟩
          go_simp
          with_reducible rfl
        refine wpAnyH_take (i := 10) (v := ?_) rfl (by kernel_rfl) (by kernel_rfl) (by kernel_rfl) (fun _ _ _ h => h) (Or.inl ⟨by rfl, ?_⟩) (SM SC) ?_
        rotate_left
        · rintro W9 ⟨y0, y1, y2⟩
          go_simp
          with_reducible rfl
        refine wpAnyH_take (i := 11) (v := ?_) rfl (by kernel_rfl) (by kernel_rfl) (by kernel_rfl) (fun _ _ _ h => h) (Or.inl ⟨by rfl, ?_⟩) (SM SC) ?_
        rotate_left
        · rintro W9 ⟨y0, y1, y2⟩
          go_simp
          with_reducible rfl
        refine wpAnyH_take (i := 12) (v := ?_) rfl (by kernel_rfl) (by kernel_rfl) (by kernel_rfl) (fun _ _ _ h => h) (Or.inl ⟨by rfl, ?_⟩) (SM SC) ?_
        rotate_left
        · rintro W9 ⟨y0, y1, y2⟩
          go_simp
          with_reducible rfl
        refine wpAnyH_take (i := 13) (v := ?_) rfl (by kernel_rfl) (by kernel_rfl) (by kernel_rfl) (fun _ _ _ h => h) (Or.inl ⟨by rfl, ?_⟩) (SM SC) ?_
        rotate_left
        · rintro W9 ⟨y0, y1, y2⟩
          go_simp
          with_reducible rfl
        refine wpAnyH_take (i := 14) (v := ?_) rfl (by kernel_rfl) (by kernel_rfl) (by kernel_rfl) (fun _ _ _ h => h) (Or.inl ⟨by rfl, ?_⟩) (SM SC) ?_
        rotate_left
        · rintro W9 ⟨y0, y1, y2⟩
          go_simp
          with_reducible rfl
        refine wpAnyH_done (by kernel_rfl) ?_ _
        have L7 := bstep LD6 LD6.size hb7
        have HO7 := Lib.hid ow7
        clear ow7
        cases T with
        | some r =>
          go_wp2_with (fail)
          go_ret2
          rw [HR2.out.1, HR2.out.2]
          exact MadeC.list (HO7.out.base_ LD6.size) (by omega) L7
        | none =>
          go_wp2_with (fail)
          go_ret2
          rw [HR2.out.1, HR2.out.2]
          exact MadeC.nilW L7
      | false =>
        have hL2 : L < 0 ∨ 2000 < L := by have h := of_decide_eq_false hL; omega
        have HI2 := Lib.hid (sIn_no L 0 2000 · hL2)
        have hL' : ¬ Num.limB L = true := by rw [hL]; simp
        have HR2 : Hid (rCollectProduct ⟨O, W, J⟩ a b L = [] ∧ cCollectProduct ⟨O, W, J⟩ a b L = 2) := Lib.hid ⟨by rw [HR.out.1]; exact if_neg hL', by rw [HR.out.2]; exact if_neg hL'⟩
        clear ea eb hO hW hJ hpre pa pb hva hvb htw ba bb hx1 hx2 h0' h0 HR hL hL2 hL'
        go_enter Try.func46, Try.ntmps46
        go_wp2_with (fail)
        clear hW0
        refine HIA.out.mono ?_; rintro e w1 ⟨rfl, hb1⟩
        have L1 := bstep b0 b0.size hb1
        obtain ⟨bl1, y0, y1, y2⟩ := (BX.below hb1).c3
        have HB1 := Lib.hid (HIB.out w1 L1)
        clear HIA HIB x0 x1 x2
        go_wp2_with (fail)
        refine HB1.out.mono ?_; rintro e w2 ⟨rfl, hb2⟩
        go_wp2_with (fail)
        refine (HI2.out w2).mono ?_; rintro e w3 ⟨rfl, rfl⟩
        go_wp2_with (fail)
        go_ret2
        rw [HR2.out.1, HR2.out.2]
        exact MadeC.nilW (bstep L1 L1.size hb2)
    | false =>
      rw [hvb] at HIB
      have htw : ¬ Pres.two ⟨O, W, J⟩ a b = true := by unfold Pres.two; rw [hvb, Bool.and_false]; simp
      have HR : Hid (rCollectProduct ⟨O, W, J⟩ a b L = [] ∧ cCollectProduct ⟨O, W, J⟩ a b L = 1) := Lib.hid ⟨if_neg htw, if_neg htw⟩
      clear hO hW hJ hva hvb htw hx1 hx2 h0' h0
      go_enter Try.func46, Try.ntmps46
      go_wp2_with (fail)
      clear hW0
      refine HIA.out.mono ?_; rintro e w1 ⟨rfl, hb1⟩
      have L1 := bstep b0 b0.size hb1
      obtain ⟨bl1, y0, y1, y2⟩ := (BX.below hb1).c3
      have HB1 := Lib.hid (HIB.out w1 L1)
      clear HIA HIB x0 x1 x2
      go_wp2_with (fail)
      refine HB1.out.mono ?_; rintro e w2 ⟨rfl, hb2⟩
      go_wp2_with (fail)
      go_ret2
      rw [HR.out.1, HR.out.2]
      exact MadeC.nilW (bstep L1 L1.size hb2)
  | false =>
    rw [hva] at HIA
    have htw : ¬ Pres.two ⟨O, W, J⟩ a b = true := by unfold Pres.two; rw [hva, Bool.false_and]; simp
    have HR : Hid (rCollectProduct ⟨O, W, J⟩ a b L = [] ∧ cCollectProduct ⟨O, W, J⟩ a b L = 1) := Lib.hid ⟨if_neg htw, if_neg htw⟩
    clear hO hW hJ hva htw hx1 hx2 h0' h0
    go_enter Try.func46, Try.ntmps46
    go_wp2_with (fail)
    clear hW0
    refine HIA.out.mono ?_; rintro e w1 ⟨rfl, hb1⟩
    go_wp2_with (fail)
    go_ret2
    rw [HR.out.1, HR.out.2]
    exact MadeC.nilW (bstep b0 b0.size hb1)
end Go.Proofs.Ytahmhdpgdhfjnaa
