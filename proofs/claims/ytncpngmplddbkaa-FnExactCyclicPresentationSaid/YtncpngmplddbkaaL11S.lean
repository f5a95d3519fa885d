/- Presentations: CyclicPresentation of both sides. -/
import Derived.Test.YtncpngmplddbkaaL11R
import Derived.Test.YtncpngmplddbkaaL01G
namespace Go.Proofs.Ytncpngmplddbkaa
open Go.RowKit
set_option linter.unusedVariables false
set_option linter.unusedSimpArgs false

set_option maxRecDepth 100000 in
set_option maxHeartbeats 2000000 in
theorem sCyclicPresentation_ok (n : Int) (w : World) : Calls Try.prog 35 #[.int .i64 n] w (MadeC spPres (rCyclicPresentation n) (cCyclicPresentation n) w) := by
  by_cases hr : 1 ≤ n ∧ n ≤ 729
  · obtain ⟨h1, h2⟩ := hr
    cases hg : Num.cycG n with
    | true =>
      have hk : cycOk n := ⟨h1, h2, hg⟩
      by_cases h6 : (Num.cycO n).length ≤ 6
      · have e : rCyclicPresentation n = cycP (Num.cycO n) ∧ cCyclicPresentation n = 0 := ⟨if_pos ⟨hk, h6⟩, by rw [cCyclicPresentation, if_pos hk, if_pos h6]⟩
        rw [e.1, e.2]
        exact sCyclic_main n w hk h6
      · have HR : Hid (rCyclicPresentation n = noPres ∧ cCyclicPresentation n = 3) := Lib.hid ⟨if_neg (fun h => h6 h.2), by rw [cCyclicPresentation, if_pos hk, if_neg h6]⟩
        have b0 : Below w.heap.size w (w.alloc (.cells #[.slice none 0 0, .slice none 0 0, .slice none 0 0] 29)) := by go_grown
        have BR := (Blk.new w [.slice none 0 0, .slice none 0 0, .slice none 0 0] 29)
        have HF := Lib.hid (sFactors7_any n (w.alloc (.cells #[.slice none 0 0, .slice none 0 0, .slice none 0 0] 29)) h1 h2)
        rw [hg] at HF
        clear hk hg
        generalize Num.cycO n = O at *
        generalize hW0 : w.alloc (.cells #[.slice none 0 0, .slice none 0 0, .slice none 0 0] 29) = W0 at *
        go_enter Try.func35, Try.ntmps35
        go_wp2_with (go_at_call 63; refine (sIn_yes _ _ _ _ h1 h2).mono ?_; rintro e w' ⟨rfl, rfl⟩)
        clear hW0
        refine HF.out.mono ?_; rintro e w1 ⟨u0, rfl, ow0, hb1⟩
        obtain ⟨A0, n0, c0, rfl, e0⟩ := ow0.formN
        obtain ⟨br, r0, r1, r2⟩ := (BR.below hb1).c3
        obtain ⟨f0, f1, f2⟩ := (BR.below hb1).f3
        have L1 := bstep b0 b0.size hb1
        have l6 : 6 < (n0 : Int) := by omega
        clear hb1 HF ow0 BR
        go_wp2_with (fail)
        refine bodyPost_ret (v := .tuple #[.agg #[.slice none 0 0, .slice none 0 0, .slice none 0 0], .int .i64 3]) (by simp [results, Try.results35, go_sem, br, r0, r1, r2]) rfl ?_
        rw [HR.out.1, HR.out.2]
        exact noPres_set L1 (Nat.le_refl _) _ _ _ _
    | false =>
      have hk : ¬ cycOk n := fun h => by rw [h.2.2] at hg; cases hg
      have HR : Hid (rCyclicPresentation n = noPres ∧ cCyclicPresentation n = 2) := Lib.hid ⟨if_neg (fun h => hk h.1), if_neg hk⟩
      have b0 : Below w.heap.size w (w.alloc (.cells #[.slice none 0 0, .slice none 0 0, .slice none 0 0] 29)) := by go_grown
      have BR := (Blk.new w [.slice none 0 0, .slice none 0 0, .slice none 0 0] 29)
      have HF := Lib.hid (sFactors7_any n (w.alloc (.cells #[.slice none 0 0, .slice none 0 0, .slice none 0 0] 29)) h1 h2)
      rw [hg] at HF
      clear hk hg
      generalize hW0 : w.alloc (.cells #[.slice none 0 0, .slice none 0 0, .slice none 0 0] 29) = W0 at *
      go_enter Try.func35, Try.ntmps35
      go_wp2_with (go_at_call 63; refine (sIn_yes _ _ _ _ h1 h2).mono ?_; rintro e w' ⟨rfl, rfl⟩)
      clear hW0
      refine HF.out.mono ?_; rintro e w1 ⟨u0, rfl, ow0, hb1⟩
      obtain ⟨br, r0, r1, r2⟩ := (BR.below hb1).c3
      obtain ⟨f0, f1, f2⟩ := (BR.below hb1).f3
      have L1 := bstep b0 b0.size hb1
      clear hb1 HF ow0 BR
      go_wp2_with (fail)
      refine bodyPost_ret (v := .tuple #[.agg #[.slice none 0 0, .slice none 0 0, .slice none 0 0], .int .i64 2]) (by simp [results, Try.results35, go_sem, br, r0, r1, r2]) rfl ?_
      rw [HR.out.1, HR.out.2]
      exact noPres_set L1 (Nat.le_refl _) _ _ _ _
  · have hk : ¬ cycOk n := fun h => hr ⟨h.1, h.2.1⟩
    have HR : Hid (rCyclicPresentation n = noPres ∧ cCyclicPresentation n = 2) := Lib.hid ⟨if_neg (fun h => hk h.1), if_neg hk⟩
    have HN : Hid (n < 1 ∨ 729 < n) := Lib.hid (by omega)
    have b0 : Below w.heap.size w (w.alloc (.cells #[.slice none 0 0, .slice none 0 0, .slice none 0 0] 29)) := by go_grown
    have BR := (Blk.new w [.slice none 0 0, .slice none 0 0, .slice none 0 0] 29)
    obtain ⟨br, r0, r1, r2⟩ := BR.c3
    obtain ⟨f0, f1, f2⟩ := BR.f3
    clear hk hr
    generalize hW0 : w.alloc (.cells #[.slice none 0 0, .slice none 0 0, .slice none 0 0] 29) = W0 at *
    go_enter Try.func35, Try.ntmps35
    go_wp2_with (go_at_call 63; refine (sIn_no _ _ _ _ HN.out).mono ?_; rintro e w' ⟨rfl, rfl⟩)
    refine bodyPost_ret (v := .tuple #[.agg #[.slice none 0 0, .slice none 0 0, .slice none 0 0], .int .i64 2]) (by simp [results, Try.results35, go_sem, br, r0, r1, r2]) rfl ?_
    rw [HR.out.1, HR.out.2]
    exact noPres_set b0 (Nat.le_refl _) _ _ _ _
/-- The factors of the first prime powers, one behind the other. -/
def Num.flatTo (L : List (Int × Int)) (j : Nat) : List Int := (L.take j).flatMap fun x => List.replicate x.2.toNat x.1
theorem Num.flatTo_step (L : List (Int × Int)) {j : Nat} (hj : j < L.length) : Num.flatTo L (j + 1) = Num.flatTo L j ++ List.replicate (L[j].2).toNat L[j].1 := by
  unfold Num.flatTo
  rw [List.take_succ_eq_append_getElem hj, List.flatMap_append]
  simp
theorem Num.flatTo_len (L : List (Int × Int)) (h : ∀ x ∈ L, x.2 ≤ 64) : ∀ j, (Num.flatTo L j).length ≤ 64 * j
  | 0 => by simp [Num.flatTo]
  | j + 1 => by
    have ih := Num.flatTo_len L h j
    by_cases hj : j < L.length
    · rw [Num.flatTo_step L hj, List.length_append, List.length_replicate]
      have := h L[j] (List.getElem_mem hj)
      omega
    · have e : Num.flatTo L (j + 1) = Num.flatTo L j := by
        unfold Num.flatTo
        rw [List.take_of_length_le (by omega), List.take_of_length_le (by omega)]
      rw [e]
      omega
theorem Num.facPE_at {n : Int} {j : Nat} (hj : j < (Num.facL 2 n).length) : (Num.facP 2 n).getD j 0 = (Num.facL 2 n)[j].1 ∧ (Num.facE 2 n).getD j 0 = (Num.facL 2 n)[j].2 := by
  unfold Num.facP Num.facE
  constructor
  · rw [List.getD_eq_getElem?_getD, List.getElem?_map, List.getElem?_eq_getElem hj]; rfl
  · rw [List.getD_eq_getElem?_getD, List.getElem?_map, List.getElem?_eq_getElem hj]; rfl
set_option maxRecDepth 100000 in
set_option maxHeartbeats 4000000 in
theorem iCyclic_main (n : Int) (w : World) (hk : cycOk n) : Calls Try.prog 36 #[.int .i64 n] w (MadeC spPres (rCyclicPresentation n) (cCyclicPresentation n) w) := by
  obtain ⟨h1, h2, hg⟩ := id hk
  obtain ⟨f1, f2, f3⟩ := Num.cyc_facts h1 h2
  obtain ⟨f4, f5, f6, f7⟩ := f3 hg
  rw [hg] at f1
  have hgo := Num.cyc_gps n
  have hno : noPres = trivP [] ∧ noPres = cycP [] := ⟨rfl, rfl⟩
  have HRC : Hid (cCyclicPresentation n = cAbelianPresentation (Num.cycO n) ∧ ∃ O', rAbelianPresentation (Num.cycO n) = trivP O' ∧ rCyclicPresentation n = cycP O' ∧ O'.length ≤ 6) := Lib.hid (by
    by_cases h6 : (Num.cycO n).length ≤ 6
    · have h0 := Num.ordC_ok (by omega) hgo (by omega : ¬ 729 < Num.prodZ (Num.cycO n))
      refine ⟨?_, _, if_pos h0, if_pos ⟨hk, h6⟩, h6⟩
      rw [cCyclicPresentation, if_pos hk, if_pos h6, cAbelianPresentation, h0]
    · have h0 := Num.ordC_len (O := Num.cycO n) (by omega)
      refine ⟨?_, [], (if_neg (by rw [h0]; decide)).trans hno.1, (if_neg (fun h => h6 h.2)).trans hno.2, by simp⟩
      rw [cCyclicPresentation, if_pos hk, if_neg h6, cAbelianPresentation, h0])
  have HCNT : Hid (spPres.cnt (rCyclicPresentation n) ≤ 1000000000) := Lib.hid (by
    obtain ⟨-, O', -, e, h6⟩ := HRC.out
    rw [e]; exact cycP_cnt (by omega))
  clear hno
  have b0 : Below w.heap.size w (w.alloc (.cells #[.slice none 0 0, .slice none 0 0, .slice none 0 0] 29)) := by go_grown
  have HBR := Lib.hid (Blk.new w [.slice none 0 0, .slice none 0 0, .slice none 0 0] 29)
  have HFC := Lib.hid (factorize_ok n (w.alloc (.cells #[.slice none 0 0, .slice none 0 0, .slice none 0 0] 29)) h1 (by omega))
  have HPL : Hid ((Num.facP 2 n).length = (Num.facL 2 n).length ∧ (Num.facE 2 n).length = (Num.facL 2 n).length) := Lib.hid ⟨List.length_map .., List.length_map ..⟩
  have HPE := Lib.hid (fun j hj => Num.facPE_at (n := n) (j := j) hj)
  have HFL : Hid (Num.flatTo (Num.facL 2 n) (Num.facL 2 n).length = Num.cycO n) := Lib.hid (by unfold Num.flatTo; rw [List.take_length]; exact f4)
  have HFB := Lib.hid f7
  have HFLN := Lib.hid (Num.flatTo_len (Num.facL 2 n) (fun x hx => (f7 x hx).2))
  have HGP := Lib.hid f1
  clear f1 f3 f4 f7 hg hk hgo f5
  generalize Num.facP 2 n = P at *
  generalize Num.facE 2 n = E at *
  generalize Num.facL 2 n = L at *
  generalize Num.cycO n = O at *
  generalize hW0 : w.alloc (.cells #[.slice none 0 0, .slice none 0 0, .slice none 0 0] 29) = W0 at *
  go_enter Try.func36, Try.ntmps36
  go_wp2_with (fail)
  clear hW0
  refine HFC.out.mono ?_; rintro e w1 ⟨uP, uE, rfl, owP, owE, -, hb1⟩
  obtain ⟨AP, nP, cP, rfl, eP⟩ := owP.formN
  obtain ⟨AE, nE, cE, rfl, eE⟩ := owE.formN
  obtain ⟨hl1, hl2⟩ := HPL.out
  have HGPS := gps_any AP cP P w1 owP.reads (by unfold maxLen; omega)
  rw [HGP.out, eP] at HGPS
  have HG := Lib.hid HGPS
  have HBR1 := Lib.hid (HBR.out.below hb1)
  have L1 := bstep b0 b0.size hb1
  have z1 := hb1.size
  have HRP := Lib.hid owP.reads
  have HRE := Lib.hid owE.reads
  have hnP : nP = L.length := by omega
  have hnE : nE = L.length := by omega
  have e729 : decide (729 < n) = false := by simp; omega
  have e729' : ¬ 729 < n := by omega
  have HLP := Lib.hid hl1
  have HLE := Lib.hid hl2
  clear HGPS HFC hb1 owP owE HBR HPL hl1 hl2 eP eE
  subst hnP
  subst hnE
  go_wp2_with (fail)
  refine HG.out.mono ?_; rintro e w' ⟨rfl, rfl⟩
  go_wp2_with (fail)
  go_loopw [7, 32] (fun s7 s32 wr => ∃ j : Nat, s32 = .int .i64 j ∧ j ≤ L.length ∧ Hid (OwnI wr w1.heap.size s7 (Num.flatTo L j)) ∧ Below w1.heap.size w1 wr) (fun _ s32 _ => L.length - (intOf s32).toNat)
  case atStart => exact ⟨0, rfl, by omega, Lib.hid (World.ownsRow_nil _ _ _ _), Below.refl _ _⟩
  case round =>
    obtain ⟨j, rfl, hj, own, bel⟩ := hrel
    have Z := bel.size
    by_cases hlt : j < L.length
    · have j0 : (0 : Int) ≤ (j : Int) := by omega
      have j1 : (j : Int) < (L.length : Int) := by omega
      obtain ⟨g, o, eAP, hgP, hcP⟩ := (HRP.out.below' bel) j (by rw [HLP.out]; exact hlt)
      obtain ⟨g', o', eAE, hgE, hcE⟩ := (HRE.out.below' bel) j (by rw [HLE.out]; exact hlt)
      obtain ⟨q1, q2⟩ := HPE.out j hlt
      obtain ⟨b1, b2⟩ := HFB.out L[j] (List.getElem_mem hlt)
      have HST := Lib.hid (Num.flatTo_step L hlt)
      have hfl := HFLN.out j
      rw [q1] at hcP
      rw [q2] at hcE
      clear q1 q2
      generalize L[j].1 = x at *
      generalize L[j].2 = y at *
      obtain ⟨m, rfl⟩ := Int.eq_ofNat_of_zero_le b1
      simp only [Int.toNat_natCast] at HST
      subst eAP eAE
      generalize Num.flatTo L j = out at *
      have BW : Below wr.heap.size wr (wr.alloc (.cells #[.int .i64 x] 2)) := by go_grown
      have HRPt := Lib.hid (repeatI_any wr.heap.size m x (wr.alloc (.cells #[.int .i64 x] 2)) (by omega) ((Blk.new wr [.int .i64 x] 2).cell 0 (by simp)))
      have hw1 : IntKind.i64.wrap (m : Int) = (m : Int) := IntWalk.i64_in _ (by omega)
      go_wp2_with (fail)
      refine HRPt.out.mono ?_; rintro e w5 ⟨AR, cR, rfl, hR, -, hb5⟩
      have B5 := bstep BW BW.size hb5
      have own5 := own.out.below B5
      have L5 := bstep bel Z B5
      have HBl := Lib.hid own.out.base_le
      clear HRPt BW hb5 own
      go_wp2_with (first | (at_builtin; refine wpList_app_ints _ rfl _ _ rfl w1.heap.size _ out (List.replicate m x) rfl own5 AR m cR (by simp) rfl hR (by rw [List.length_replicate]; omega) L5.size ?_; intro v6 w6 own6 gr6 at6))
      have O6 : Hid (OwnI w6 w1.heap.size v6 (Num.flatTo L (j + 1))) := Lib.hid (by rw [HST.out]; exact own6)
      have L6 := L5.grown gr6 L5.size HBl.out
      go_wp2_with (fail)
      exact ⟨⟨j + 1, by go_num, by omega, O6, L6⟩, by simp [intOf]; omega⟩
    · have hge : ¬ ((j : Int) < (L.length : Int)) := by omega
      obtain rfl : j = L.length := by omega
      have ow := own.out
      rw [HFL.out] at ow
      obtain ⟨A7, n7, c7, e7, e7'⟩ := ow.formN
      subst e7
      have HAB := Lib.hid (iAbelianPresentation_ok (.slice A7 n7 c7) O wr (spI.own_rd (spI_of ow)) (by show O.length ≤ _; omega))
      have HBR2 := Lib.hid (HBR1.out.below bel)
      have L2 := bstep L1 L1.size bel
      clear own ow HBR1 L1 HRP HRE HPE HFB HFLN HGP HG HFL
      generalize cAbelianPresentation O = cd at *
      go_wp2_with (fail)
      refine HAB.out.mono ?_; rintro e w5 ⟨u, S, rfl, own, hS, -, hb5⟩
      obtain ⟨hcd, O', hab, hcy, h6⟩ := HRC.out
      rw [hab] at own
      have L5 := bstep L2 L2.size hb5
      have z5 := hb5.size
      have z2 := L2.size
      have hw0 := HBR2.out.lt
      obtain ⟨v0, v1, v2, S0, S1, S2, rfl, PB⟩ := PBox.of (B := w.heap.size + 1) own (fun k hk => by have := hS k hk; omega) (by omega)
      have BR5 := (HBR2.out.below hb5).alloc (.cells #[v0, v1, v2] 29)
      have L6 := L5.alloc L5.size (.cells #[v0, v1, v2] 29)
      obtain ⟨⟨A1, c1, e1⟩, ⟨A2, c2, e2⟩, A3, c3, e3⟩ := PB.forms
      obtain ⟨n0, hn0⟩ : ∃ n0, O'.length = n0 := ⟨_, rfl⟩
      have HM := Lib.hid hn0
      have hT : trivP O' = ⟨O', Num.cycS n0 0, Num.trivJ n0 n0⟩ := by unfold trivP; rw [hn0]; rfl
      rw [show (trivP O').O.length = n0 from hn0] at e1
      rw [show (trivP O').W.length = n0 by rw [hT]; exact Num.cycS_len _ _] at e2
      rw [show (trivP O').J.length = n0 by rw [hT]; exact Num.trivJ_len _ _] at e3
      subst e1 e2 e3
      have hPB0 : PBox (w.heap.size + 1) (w5.alloc (.cells #[.slice A1 n0 c1, .slice A2 n0 c2, .slice A3 n0 c3] 29)) w5.heap.size O' (Num.cycS n0 0) (Num.trivJ n0 n0) (.slice A1 n0 c1) (.slice A2 n0 c2) (.slice A3 n0 c3) S0 S1 S2 := by rw [hT] at PB; exact PB
      have HPB0 := Lib.hid hPB0
      have HBR0 := Lib.hid BR5
      have HL3 := Lib.hid L6
      have HCD := Lib.hid hcd
      have HCY := Lib.hid hcy
      have hb6 : w.heap.size < w5.heap.size := by omega
      rw [hn0] at h6
      clear hPB0 PB BR5 L6 own hS hb5 HAB hT hab hcd hcy HRC HBR2 L2 L5 hn0
      go_wp2_with (fail)
      generalize hWA : w5.alloc (.cells #[.slice A1 n0 c1, .slice A2 n0 c2, .slice A3 n0 c3] 29) = wa at *
      generalize hb6' : w5.heap.size = b6 at *
      clear hWA hb6'
      go_loopw [11] (fun s11 wr => ∃ t : Nat, s11 = .int .i64 ((t : Int) + 1) ∧ t ≤ n0 - 1 ∧ Hid (PBox (w.heap.size + 1) wr b6 O' (Num.cycS n0 t) (Num.trivJ n0 n0) (.slice A1 n0 c1) (.slice A2 n0 c2) (.slice A3 n0 c3) S0 S1 S2) ∧ Hid (Blk wr w.heap.size [.slice none 0 0, .slice none 0 0, .slice none 0 0] 29) ∧ Below w.heap.size w wr) (fun s11 _ => n0 - (intOf s11).toNat)
      case atStart => exact ⟨0, rfl, by omega, HPB0, HBR0, HL3.out⟩
      case round =>
        clear HPB0 HBR0 HL3
        obtain ⟨t, rfl, ht, PB, BR, bel⟩ := hrel
        have Z := bel.size
        obtain ⟨bl, x0, x1, x2⟩ := PB.out.box.c3
        by_cases hlt : t + 1 < n0
        · have t0 : (t : Int) + 1 < (n0 : Int) := by omega
          have t1 : IntKind.i64.wrap ((t : Int) + 1 - 1) = (t : Int) := by rw [show (t : Int) + 1 - 1 = (t : Int) by omega]; exact IntWalk.i64_in _ (by omega)
          have t1' : IntKind.i64.wrap (t : Int) = (t : Int) := IntWalk.i64_in _ (by omega)
          have t2 : IntKind.i64.wrap ((t : Int) + 1 + 1) = (t : Int) + 1 + 1 := IntWalk.i64_in _ (by omega)
          have t3 : (0 : Int) ≤ (t : Int) := by omega
          have t4 : (t : Int) < (n0 : Int) := by omega
          have t5 : ((t : Int) + 1).toNat = t + 1 := by omega
          have t6 : (0 : Int) ≤ (t : Int) + 1 := by omega
          have hjt : t < (Num.cycS n0 t).length := by rw [Num.cycS_len]; omega
          obtain ⟨g2, cg, ug, Tg, eg, hSg, hgl, hgc, hgf, oT, hTS, -, hput⟩ := spL_in PB.out.o1 hjt
          simp only [Value.slice.injEq] at eg
          obtain ⟨rfl, -, -⟩ := eg
          rw [Num.cycS_at n0 t t (Nat.le_refl _) (by omega)] at oT
          obtain ⟨gr, cr, er, hTr, hgr, hrc, hrf⟩ := spI_cellAt oT (j := t + 1) (by rw [List.length_replicate]; omega)
          rw [List.length_replicate] at er
          subst er
          have hset := spI_setAt oT (j := t + 1) (by rw [List.length_replicate]; omega) 1
          have hchg : ChgS Tg wr (wr.setCell ⟨gr, t + 1, none⟩ (.int .i64 1)) := (ChgS.set wr ⟨gr, t + 1, none⟩ (.int .i64 1)).mono fun k e => by subst e; exact hTr
          have PB8 := PB.out.inW (hchg.mono hTS) (hput _ _ hchg hset)
          have hSB := PB.out.s1 gr (hTS _ hTr)
          have BR8 := BR.out.other (p := ⟨gr, t + 1, none⟩) (by show w.heap.size ≠ gr; omega) (.int .i64 1)
          have L8 := bel.setCell (p := ⟨gr, t + 1, none⟩) (by show w.heap.size ≤ gr; omega) (.int .i64 1)
          have HPB8 : Hid (PBox (w.heap.size + 1) (wr.setCell ⟨gr, t + 1, none⟩ (.int .i64 1)) b6 O' (Num.cycS n0 (t + 1)) (Num.trivJ n0 n0) (.slice A1 n0 c1) (.slice (some ⟨g2, 0, none⟩) n0 c2) (.slice A3 n0 c3) S0 S1 S2) := Lib.hid PB8
          have HBR8 := Lib.hid BR8
          clear PB8 BR8 hchg hset hput oT PB BR
          go_wp2_with (fail)
          exact ⟨⟨t + 1, by first | go_num | (congr 1; omega), by omega, HPB8, HBR8, L8⟩, by simp [intOf]; omega⟩
        · have hge : ¬ ((t : Int) + 1 < (n0 : Int)) := by omega
          obtain rfl : t = n0 - 1 := by omega
          obtain ⟨br, r0, r1, r2⟩ := BR.out.c3
          obtain ⟨f0, f1, f2⟩ := BR.out.f3
          have ne1 : ¬ (w.heap.size = b6) := by omega
          have ne2 : ¬ (b6 = w.heap.size) := by omega
          have HPB := Lib.hid PB.out
          clear PB BR
          go_wp2_with (fail)
          refine bodyPost_ret (v := .tuple #[.agg #[.slice A1 n0 c1, .slice A2 n0 c2, .slice A3 n0 c3], .int .i64 cd]) (by simp [results, Try.results36, go_sem, br, r0, r1, r2]) rfl ?_
          have ow := HPB.out.own
          have bs := HPB.out.base
          have nb : ¬ ((fun k => S0 k ∨ S1 k ∨ S2 k) w.heap.size) := fun hh => by have := bs _ hh; omega
          rw [HCD.out]
          refine ⟨_, _, rfl, ?_, fun k hk => by have := bs k hk; omega, HCNT.out, ?_⟩
          · have e : cycP O' = ⟨O', Num.cycS n0 (n0 - 1), Num.trivJ n0 n0⟩ := by unfold cycP; rw [HM.out]
            rw [HCY.out, e]
            exact spPres.own_set (spPres.own_set (spPres.own_set ow (p := ⟨w.heap.size, 0, none⟩) nb _) (p := ⟨w.heap.size, 1, none⟩) nb _) (p := ⟨w.heap.size, 2, none⟩) nb _
          · exact ((bel.setCell (p := ⟨w.heap.size, 0, none⟩) (by simp) _).setCell (p := ⟨w.heap.size, 1, none⟩) (by simp) _).setCell (p := ⟨w.heap.size, 2, none⟩) (by simp) _
end Go.Proofs.Ytncpngmplddbkaa
