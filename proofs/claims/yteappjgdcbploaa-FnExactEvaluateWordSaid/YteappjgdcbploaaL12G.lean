/- Consistency of the program: image, by recursion on the number of an element. -/
import Derived.Test.YteappjgdcbploaaL12F
import Derived.Deep.RegionWith
import Derived.Deep.RegionHeld3
namespace Go.Proofs.Yteappjgdcbploaa
open Go.RowKit
set_option linter.unusedVariables false
set_option linter.unusedSimpArgs false

set_option maxRecDepth 100000 in
set_option maxHeartbeats 4000000 in
theorem image_any {O : List Int} {W : List (List Int)} {J : List (List (List Int))} (V : Num.Val O W J) (i : Nat) (hi : i < O.length) (C : Num.Con (Num.tlL O W J (i + 1))) (t : Tw) (bm : Nat) (w0 : World) (HT : ∀ w', ChgS (fun k => k = bm) w0 w' → TwR O W J t (i + 1) w') :
    ∀ (N : Nat) (a : List Int) (w : World), Num.El (Num.tlL O W J (i + 1)) a → Num.numL (Num.tlL O W J (i + 1)) a < N → ChgS (fun k => k = bm) w0 w → MSt O W J i t.bo bm w →
      Calls Try.prog 166 #[.pointer (some ⟨t.tb, 0, none⟩), .int .i64 (i : Int), .int .i64 (Num.numL (Num.tlL O W J (i + 1)) a)] w fun e w' => e = .returned (.int .i64 (Num.numL (Num.tlL O W J (i + 1)) (Num.imgL (Num.lvA O W J i) (Num.tlL O W J (i + 1)) a))) ∧ ChgS (fun k => k = bm) w w' ∧ MSt O W J i t.bo bm w'
  | 0, a, w, ha, hN, _, _ => by have := (num_ok V ha).1; omega
  | N + 1, a, w, ha, hN, hch, hst => by
    have IH := image_any V i hi C t bm w0 HT N
    have n6 := V.n6
    have T := HT w hch
    obtain ⟨tl, t0, t1, t2, t3, t4, t5, t6, t7⟩ := T.box.c8
    have hl1 := hst.look1 (by omega : i ≤ 1000)
    obtain ⟨x, b, hl2, hb1, hb0⟩ := hst.look2 V ha
    cases b with
    | true =>
      obtain rfl := hb1 rfl
      have HST := Lib.hid hst
      generalize Num.numL (Num.tlL O W J (i + 1)) (Num.imgL (Num.lvA O W J i) (Num.tlL O W J (i + 1)) a) = y at *
      generalize Num.numL (Num.tlL O W J (i + 1)) a = z at *
      clear IH T hst V HT C
      go_enter Try.func166, Try.ntmps166
      go_wp2_with (fail)
      go_ret
      exact ⟨rfl, ChgS.refl _ _, HST.out⟩
    | false =>
      have hne := hb0 rfl
      have hOi := V.ok i
      rw [Num.tlL_step hi] at hOi
      have hna := num_ok V ha
      have HLG := Lib.hid (lastGen_any V T a ha hne (by omega))
      have HV := Lib.hid V
      have HC := Lib.hid C
      have HTT := Lib.hid HT
      have HST := Lib.hid hst
      have HIH := Lib.hid IH
      have HA := Lib.hid ha
      have HCH := Lib.hid hch
      obtain ⟨X, hX⟩ : ∃ X, X = Num.numL (Num.tlL O W J (i + 1)) a := ⟨_, rfl⟩
      have HX := Lib.hid hX
      obtain ⟨Y, hY⟩ : ∃ Y, Y = Num.numL (Num.tlL O W J (i + 1)) (Num.imgL (Num.lvA O W J i) (Num.tlL O W J (i + 1)) a) := ⟨_, rfl⟩
      have HY := Lib.hid hY
      rw [← hX] at hna hN hl2 HLG ⊢
      rw [← hY]
      clear IH T hst V HT C hb1 hb0 hne ha hX hY hch hOi
      go_enter Try.func166, Try.ntmps166
      go_wp2_with (fail)
      refine HLG.out.mono ?_; rintro e w1 ⟨⟨q, f, ex, hL, rfl⟩, rfl⟩
      have hq : i + 1 + q < O.length := by have := hL.lt; rw [Num.tlL_len] at this; omega
      have hOi := HV.out.ok i
      rw [Num.tlL_step hi] at hOi
      have hE2 := Num.El_last (HV.out.ok (i + 1)) HA.out hL
      have hn2 := Num.num_last (HV.out.ok (i + 1)) HA.out hL
      rw [Num.tlL_drop, ← HX.out] at hn2
      have hI := Num.img_last hOi hL
      have hs := szL_bd HV.out (i + 1 + q + 1)
      have hb2 := num_ok HV.out hE2
      have b1 : Below w.heap.size w w.drew := (Below.refl _ _).drew
      have hst1 := HST.out.below b1
      have hlg := hst1.lookg HV.out hi HC.out hq
      have hcl : q < (Num.lvA O W J i).cj.length := by rw [hOi.2.2.1, Num.tlL_len]; omega
      have hcE : Num.El (Num.tlL O W J (i + 1)) ((Num.lvA O W J i).cj.getD q []) := hOi.2.2.2.1 _ (Num.getD_mem' hcl)
      have hiE : Num.El (Num.tlL O W J (i + 1)) (Num.imgL (Num.lvA O W J i) (Num.tlL O W J (i + 1)) (f ++ (ex - 1) :: Num.zer ((Num.tlL O W J (i + 1)).length - (q + 1)))) := Num.El.img hOi _
      have hch1 : ChgS (fun k => k = bm) w0 w.drew := HCH.out.trans (ChgS.of_below b1)
      have HIM := Lib.hid (HIH.out _ w.drew hE2 (by rw [hn2]; have := hs.1; rw [show i + 1 + (q + 1) = i + 1 + q + 1 by omega]; omega) hch1 hst1)
      rw [hn2, show i + 1 + (q + 1) = i + 1 + q + 1 by omega] at HIM
      have HLK : Hid (∀ w', MSt O W J i t.bo bm w' → (Instr.lookup 161 (.map (some bm)) (.int .i64 (Num.szL (Num.tlL O W J (i + 1 + q + 1)))) false).run Try.prog w' = .ok (.int .i64 (Num.numL (Num.tlL O W J (i + 1)) ((Num.lvA O W J i).cj.getD q []))) w') := Lib.hid fun w' h => h.lookg HV.out hi HC.out hq
      have HTM : Hid (∀ w', ChgS (fun k => k = bm) w0 w' → Calls Try.prog 108 #[.pointer (some ⟨t.tb, 0, none⟩), .int .i64 (Num.numL (Num.tlL O W J (i + 1)) (Num.imgL (Num.lvA O W J i) (Num.tlL O W J (i + 1)) (f ++ (ex - 1) :: Num.zer ((Num.tlL O W J (i + 1)).length - (q + 1))))), .int .i64 (Num.numL (Num.tlL O W J (i + 1)) ((Num.lvA O W J i).cj.getD q []))] w' fun e w'' => e = .returned (.int .i64 Y) ∧ w' = w'') := Lib.hid fun w' h => by
        have := times_any HV.out (HTT.out w' h) (by omega) HC.out _ _ hiE hcE
        rw [← hI, ← HY.out] at this
        exact this
      have HPU : Hid (∀ w', MSt O W J i t.bo bm w' → ∃ w'', (Instr.mapUpdate 161 (.map (some bm)) (.int .i64 X) (.int .i64 Y)).run Try.prog w' = .ok () w'' ∧ MSt O W J i t.bo bm w'' ∧ ChgS (fun k => k = bm) w' w'' ∧ (Instr.lookup 161 (.map (some bm)) (.int .i64 X) false).run Try.prog w'' = .ok (.int .i64 Y) w'') := Lib.hid fun w' h => by
        rw [HX.out, HY.out]
        exact h.put HV.out hi HA.out
      rw [show i + 1 + (q + 1) = i + 1 + q + 1 by omega] at hn2
      have hw1 : IntKind.i64.wrap (X - Num.szL (Num.tlL O W J (i + 1 + q + 1))) = X - Num.szL (Num.tlL O W J (i + 1 + q + 1)) := IntWalk.i64_in _ (by omega)
      generalize Num.numL (Num.tlL O W J (i + 1)) (Num.imgL (Num.lvA O W J i) (Num.tlL O W J (i + 1)) (f ++ (ex - 1) :: Num.zer ((Num.tlL O W J (i + 1)).length - (q + 1)))) = u1 at *
      generalize Num.numL (Num.tlL O W J (i + 1)) ((Num.lvA O W J i).cj.getD q []) = u2 at *
      generalize Num.szL (Num.tlL O W J (i + 1 + q + 1)) = s at *
      clear hI hE2 hcE hiE hOi hn2 hL hs hb2 hcl HLG hl1 hl2 HIH HA
      go_wp2_with (fail)
      go_region_with (first
        | (go_at_call 166; (with_reducible refine HIM.out.mono ?_); rintro e w2 ⟨rfl, hc2, hs2⟩; have hlg2 := HLK.out w2 hs2; have hch2 := hch1.trans hc2; have HTM2 := Lib.hid (HTM.out w2 hch2); obtain ⟨w3, hput, hs3, hc3, hlook⟩ := HPU.out w2 hs2)
        | (go_at_call 108; (with_reducible refine HTM2.out.mono ?_); rintro e w4 ⟨rfl, rfl⟩))
      all_goals
        have hfin : ChgS (fun k => k = bm) w w3 := ((ChgS.of_below b1).trans hc2).trans hc3
        have HS3 := Lib.hid hs3
        clear HIM HLK HTM HPU hlg hlg2 HTM2 hs2 hs3 hc2 hc3 hput hst1
        go_wp2_with (fail)
        go_ret
        exact ⟨rfl, hfin, HS3.out⟩
end Go.Proofs.Yteappjgdcbploaa
