/- Presentations: the program's DirectProduct. -/
import Derived.Test.YtncpngmplddbkaaL11X
import Derived.Test.YtncpngmplddbkaaL11Y
namespace Go.Proofs.Ytncpngmplddbkaa
open Go.RowKit
set_option linter.unusedVariables false
set_option linter.unusedSimpArgs false

theorem rep_row {N j : Nat} (h : j < N) : (List.replicate N (List.replicate N (0 : Int))).getD j [] = List.replicate N 0 := by
  rw [List.getD_eq_getElem?_getD, List.getElem?_replicate, if_pos h]; rfl
theorem cpR_zero {m n N : Nat} (hN : m + n = N) {v row : List Int} (hv : v.length = m) (hr : row.drop m = List.replicate n 0) : Num.cpR 0 row v = Num.shA n v := by
  unfold Num.cpR Num.shA
  rw [List.take_zero, List.nil_append, Nat.zero_add, hv, hr]
theorem cpR_end {m n N : Nat} (hN : m + n = N) {v row : List Int} (hv : v.length = n) (hl : row.length = N) (hr : row.take m = List.replicate m 0) : Num.cpR m row v = Num.shB m v := by
  unfold Num.cpR Num.shB
  rw [hr, hv, List.drop_of_length_le (by omega), List.append_nil]
theorem shOk_A {m n N : Nat} {O : List Int} {Wp : List (List Int)} {Jp : List (List (List Int))} (hN : m + n = N) (S : Num.Shp m O Wp Jp) : Num.shOk 0 (Num.shA n) m N Wp (List.replicate N (List.replicate N 0)) Jp (Num.trivJ N N) := by
  refine ⟨fun i hi => ?_, fun i hi k hk => ?_⟩
  · rw [Nat.zero_add, rep_row (by omega)]
    exact ⟨List.length_replicate, cpR_zero hN (S.lw i hi) (by rw [List.drop_replicate]; congr 1; omega)⟩
  · rw [Nat.zero_add, Num.trivJ_at _ _ _ (by omega), Num.trivR_len, Num.trivR_at _ _ _ _ (by omega)]
    exact ⟨by omega, Num.uni_len _ _, cpR_zero hN (S.lr i hi k hk) (by rw [Num.uni, List.drop_set_of_lt (by omega), List.drop_replicate]; congr 1; omega)⟩
theorem shOk_B {m n N : Nat} {O : List Int} {Wp Wa : List (List Int)} {Jp Ja : List (List (List Int))} (sh : List Int → List Int) (hN : m + n = N) (S : Num.Shp n O Wp Jp) :
    Num.shOk m (Num.shB m) n N Wp (Num.pW sh 0 Wa (List.replicate N (List.replicate N 0)) m) Jp (Num.pJ sh 0 Ja (Num.trivJ N N) m) := by
  refine ⟨fun i hi => ?_, fun i hi k hk => ?_⟩
  · rw [Num.pW_at _ _ _ _ _ (by rw [List.length_replicate]; omega), if_neg (by omega), rep_row (by omega)]
    exact ⟨List.length_replicate, cpR_end hN (S.lw i hi) List.length_replicate (by rw [List.take_replicate]; congr 1; omega)⟩
  · rw [Num.pJ_at _ _ _ _ _ (by rw [Num.trivJ_len]; omega), if_neg (by omega), Num.trivJ_at _ _ _ (by omega), Num.trivR_len, Num.trivR_at _ _ _ _ (by omega)]
    exact ⟨by omega, Num.uni_len _ _, cpR_end hN (S.lr i hi k hk) (Num.uni_len _ _) (by rw [Num.uni, List.take_set_of_le (by omega), List.take_replicate]; congr 1; omega)⟩
theorem PBox.inWJ {B b : Nat} {w w2 : World} {O : List Int} {W W' : List (List Int)} {J J' : List (List (List Int))} {v0 v1 v2 : Value} {S0 S1 S2 : Nat → Prop} (h : PBox B w b O W J v0 v1 v2 S0 S1 S2) (ch : ChgS (fun k => S1 k ∨ S2 k) w w2) (o1 : spII.own w2 S1 v1 W') (o2 : spIII.own w2 S2 v2 J') : PBox B w2 b O W' J' v0 v1 v2 S0 S1 S2 :=
  { h with box := h.box.chg ch (fun hh => by
             rcases hh with hh | hh
             · exact (h.s1 b hh).2 rfl
             · exact (h.s2 b hh).2 rfl), o0 := spI.own_chg h.o0 ch (fun k h1 h2 => by
             rcases h2 with h2 | h2
             · exact h.d01 k h1 h2
             · exact h.d02 k h1 h2), o1 := o1, o2 := o2 }
theorem presC_mk {w : World} {m a0 a1 a2 : Nat} {A0 A1 A2 : Option Addr} {O : List Int} {W : List (List Int)} {J : List (List (List Int))} (S : Num.Shp m O W J) (h : RdI w A0 O ∧ RdW w A1 W ∧ RdX w A2 J) (ha : m ≤ a0) : PresC w (.agg #[.slice A0 m a0, .slice A1 m a1, .slice A2 m a2]) ⟨O, W, J⟩ := by
  have h6 := S.h6
  exact ⟨A0, a0, A1, a1, A2, a2, by simp only [S.l0, S.l1, S.l2], h, by show O.length ≤ _; rw [S.l0]; unfold maxLen; omega, by show W.length ≤ _; rw [S.l1]; unfold maxLen; omega, by show J.length ≤ _; rw [S.l2]; unfold maxLen; omega, by show O.length ≤ _; rw [S.l0]; exact ha⟩
set_option maxRecDepth 100000 in
set_option maxHeartbeats 4000000 in
theorem iDirect_main (A0 A1 A2 B0 B1 B2 : Option Addr) (a0 a1 a2 b0 b1 b2 m n : Nat) (Oa Ob : List Int) (Wa Wb : List (List Int)) (Ja Jb : List (List (List Int))) (w : World) (hA : RdI w A0 Oa ∧ RdW w A1 Wa ∧ RdX w A2 Ja) (hB : RdI w B0 Ob ∧ RdW w B1 Wb ∧ RdX w B2 Jb)
    (SA : Num.Shp m Oa Wa Ja) (SB : Num.Shp n Ob Wb Jb) (ca : m ≤ a0) (cb : n ≤ b0) (hx : Pres.ok ⟨Oa, Wa, Ja⟩ = true) (hy : Pres.ok ⟨Ob, Wb, Jb⟩ = true) :
    Calls Try.prog 38 #[.agg #[.slice A0 m a0, .slice A1 m a1, .slice A2 m a2], .agg #[.slice B0 n b0, .slice B1 n b1, .slice B2 n b2]] w (MadeC spPres (rDirectProduct ⟨Oa, Wa, Ja⟩ ⟨Ob, Wb, Jb⟩) (cDirectProduct ⟨Oa, Wa, Ja⟩ ⟨Ob, Wb, Jb⟩) w) := by
  have m6 := SA.h6
  have n6 := SB.h6
  obtain ⟨W0, hW0⟩ : ∃ X, ((w.alloc (.cells #[.slice A0 m a0, .slice A1 m a1, .slice A2 m a2] 29)).alloc (.cells #[.slice B0 n b0, .slice B1 n b1, .slice B2 n b2] 29)).alloc (.cells #[.slice none 0 0, .slice none 0 0, .slice none 0 0] 29) = X := ⟨_, rfl⟩
  have bW : Below w.heap.size w W0 := by rw [← hW0]; go_grown
  have BA : Blk W0 w.heap.size [.slice A0 m a0, .slice A1 m a1, .slice A2 m a2] 29 := by rw [← hW0]; exact ((Blk.new w [.slice A0 m a0, .slice A1 m a1, .slice A2 m a2] 29).alloc _).alloc _
  have BB : Blk W0 (w.heap.size + 1) [.slice B0 n b0, .slice B1 n b1, .slice B2 n b2] 29 := by
    rw [← hW0]
    have := (Blk.new (w.alloc (.cells #[.slice A0 m a0, .slice A1 m a1, .slice A2 m a2] 29)) [.slice B0 n b0, .slice B1 n b1, .slice B2 n b2] 29).alloc (.cells #[.slice none 0 0, .slice none 0 0, .slice none 0 0] 29)
    simpa using this
  have BR : Blk W0 (w.heap.size + 1 + 1) [.slice none 0 0, .slice none 0 0, .slice none 0 0] 29 := by
    rw [← hW0]
    have := Blk.new ((w.alloc (.cells #[.slice A0 m a0, .slice A1 m a1, .slice A2 m a2] 29)).alloc (.cells #[.slice B0 n b0, .slice B1 n b1, .slice B2 n b2] 29)) [.slice none 0 0, .slice none 0 0, .slice none 0 0] 29
    simpa using this
  have hz3 : w.heap.size + 3 ≤ W0.heap.size := by rw [← hW0]; simp
  have RA : Hid (RdI W0 A0 Oa ∧ RdW W0 A1 Wa ∧ RdX W0 A2 Ja) := Lib.hid ⟨hA.1.below' bW, hA.2.1.below' bW, hA.2.2.below' bW⟩
  have RB : Hid (RdI W0 B0 Ob ∧ RdW W0 B1 Wb ∧ RdX W0 B2 Jb) := Lib.hid ⟨hB.1.below' bW, hB.2.1.below' bW, hB.2.2.below' bW⟩
  have HSA := Lib.hid SA
  have HSB := Lib.hid SB
  have HIA := Lib.hid (iIsPres_any _ _ W0 (presC_mk (a1 := a1) (a2 := a2) SA RA.out ca))
  have HIB : Hid (∀ W, Below W0.heap.size W0 W → Calls Try.prog 14 #[.agg #[.slice B0 n b0, .slice B1 n b1, .slice B2 n b2]] W (RetB true W)) := Lib.hid fun W hb => by
    have := iIsPres_any _ _ W ((presC_mk (a1 := b1) (a2 := b2) SB RB.out cb).below hb)
    rwa [hy] at this
  rw [hx] at HIA
  have HX := Lib.hid hx
  have HY := Lib.hid hy
  obtain ⟨N, hN⟩ : ∃ N, m + n = N := ⟨_, rfl⟩
  have HN := Lib.hid hN
  have HLN : Hid ((Oa ++ Ob).length = N) := Lib.hid (by rw [List.length_append, SA.l0, SB.l0, hN])
  have HMX : Hid (m ≤ maxLen ∧ n ≤ maxLen ∧ Oa.length + Ob.length ≤ 1000 ∧ spI.sz (Oa ++ Ob) ≤ 1048576) := Lib.hid ⟨by unfold maxLen; omega, by unfold maxLen; omega, by rw [SA.l0, SB.l0]; omega, by show (Oa ++ Ob).length ≤ _; rw [List.length_append, SA.l0, SB.l0]; omega⟩
  have hN12 : N ≤ 12 := by omega
  clear hA hB SA SB ca cb hx hy hN
  obtain ⟨l0, x0, x1, x2⟩ := BA.c3
  obtain ⟨l1, y0, y1, y2⟩ := BB.c3
  obtain ⟨l2, r0, r1, r2⟩ := BR.c3
  obtain ⟨f0, f1, f2⟩ := BR.f3
  go_enter Try.func38, Try.ntmps38
  go_wp2_with (fail)
  clear hW0
  refine HIA.out.mono ?_; rintro e w1 ⟨rfl, hb1⟩
  have HIB1 := Lib.hid (HIB.out w1 hb1)
  clear HIA HIB
  replace bW := bstep bW bW.size hb1
  replace BA := BA.below hb1
  replace BB := BB.below hb1
  replace BR := BR.below hb1
  clear l0 x0 x1 x2 l1 y0 y1 y2 l2 r0 r1 r2 f0 f1 f2
  obtain ⟨l0, x0, x1, x2⟩ := BA.c3
  obtain ⟨l1, y0, y1, y2⟩ := BB.c3
  obtain ⟨l2, r0, r1, r2⟩ := BR.c3
  obtain ⟨f0, f1, f2⟩ := BR.f3
  go_wp2_with (fail)
  refine HIB1.out.mono ?_; rintro e w2 ⟨rfl, hb2⟩
  have bel2 := bstep hb1 hb1.size hb2
  clear HIB1 hb1
  replace bW := bstep bW bW.size hb2
  replace BA := BA.below hb2
  replace BB := BB.below hb2
  replace BR := BR.below hb2
  clear l0 x0 x1 x2 l1 y0 y1 y2 l2 r0 r1 r2 f0 f1 f2
  obtain ⟨l0, x0, x1, x2⟩ := BA.c3
  obtain ⟨l1, y0, y1, y2⟩ := BB.c3
  obtain ⟨l2, r0, r1, r2⟩ := BR.c3
  obtain ⟨f0, f1, f2⟩ := BR.f3
  clear hb2
  have bc : Below w2.heap.size w2 (w2.alloc (.cells #[.slice A0 m a0, .slice B0 n b0] 22)) := by go_grown
  have BK := Blk.new w2 [.slice A0 m a0, .slice B0 n b0] 22
  have HCC := Lib.hid (concatI_any (.slice A0 m a0) (.slice B0 n b0) Oa Ob w2.heap.size (w2.alloc (.cells #[.slice A0 m a0, .slice B0 n b0] 22)) ⟨A0, a0, by rw [HSA.out.l0], by rw [HSA.out.l0]; exact HMX.out.1, (RA.out.1.below' bel2).below' bc⟩ ⟨B0, b0, by rw [HSB.out.l0], by rw [HSB.out.l0]; exact HMX.out.2.1, (RB.out.1.below' bel2).below' bc⟩ HMX.out.2.2.1 BK.c2.2.1 BK.c2.2.2)
  clear BK
  go_wp2_with (fail)
  refine HCC.out.mono ?_; rintro e w3 ⟨u3, rfl, ow3, hb3⟩
  have bel3 := bstep (bstep bel2 bel2.size bc) (by have := bel2.size; simp; omega) hb3
  have b23 := bstep bc (by simp) hb3
  have HAB := Lib.hid (iAbelianPresentation_ok u3 (Oa ++ Ob) w3 (spI.own_rd (spI_of ow3)) HMX.out.2.2.2)
  clear HCC hb3 bc bel2 ow3
  replace bW := bstep bW bW.size b23
  replace BA := BA.below b23
  replace BB := BB.below b23
  replace BR := BR.below b23
  clear l0 x0 x1 x2 l1 y0 y1 y2 l2 r0 r1 r2 f0 f1 f2
  obtain ⟨l0, x0, x1, x2⟩ := BA.c3
  obtain ⟨l1, y0, y1, y2⟩ := BB.c3
  obtain ⟨l2, r0, r1, r2⟩ := BR.c3
  obtain ⟨f0, f1, f2⟩ := BR.f3
  clear b23
  by_cases h0 : Num.ordC (Oa ++ Ob) = 0
  · have HE := Lib.hid (dp_good HX.out HY.out h0)
    have hAb : rAbelianPresentation (Oa ++ Ob) = trivP (Oa ++ Ob) ∧ cAbelianPresentation (Oa ++ Ob) = 0 := ⟨if_pos h0, h0⟩
    rw [hAb.1, hAb.2] at HAB
    have HCN : Hid (spPres.cnt (dpP ⟨Oa, Wa, Ja⟩ ⟨Ob, Wb, Jb⟩) ≤ 1000000000) := Lib.hid (Pres.ok_cnt (by rw [dpP_ok HX.out HY.out]; exact decide_eq_true h0))
    have HT : Hid ((trivP (Oa ++ Ob)).W = List.replicate N (List.replicate N 0) ∧ (trivP (Oa ++ Ob)).J = Num.trivJ N N) := Lib.hid (by unfold trivP; rw [HLN.out]; exact ⟨rfl, rfl⟩)
    clear h0 hAb
    go_wp2_with (fail)
    refine HAB.out.mono ?_; rintro e w4 ⟨u, S, rfl, own, hS, -, hb4⟩
    have bel4 := bstep bel3 bel3.size hb4
    have hz4 := bel4.size
    obtain ⟨A4, n4, c4, A5, n5, c5, A6, n6', c6, rfl, q0, q1, q2⟩ := spPres_form (spPres.own_rd own)
    obtain ⟨e4, e5, e6⟩ := trivP_lens q0 q1 q2
    rw [HLN.out] at e4 e5 e6
    obtain rfl : N = n4 := e4.symm
    obtain rfl : N = n5 := e5.symm
    obtain rfl : N = n6' := e6.symm
    obtain ⟨S0, S1, S2, PB⟩ := PBox.new3 (B := W0.heap.size) own (fun k hk => Nat.le_trans bel3.size (hS k hk)) bel4.size
    have hb5 : Below w4.heap.size w4 (w4.alloc (.cells #[.slice A4 N c4, .slice A5 N c5, .slice A6 N c6] 29)) := by go_grown
    have bel5 := bstep bel4 bel4.size hb5
    have PB0 := PB
    rw [HT.out.1, HT.out.2] at PB0
    have HPB := Lib.hid PB0
    have h45 := bstep hb4 hb4.size hb5
    clear HAB own hS q0 q1 q2 hb4 PB PB0 bel3 bel4
    replace bW := bstep bW bW.size h45
    replace BA := BA.below h45
    replace BB := BB.below h45
    replace BR := BR.below h45
    clear l0 x0 x1 x2 l1 y0 y1 y2 l2 r0 r1 r2 f0 f1 f2
    obtain ⟨l0, x0, x1, x2⟩ := BA.c3
    obtain ⟨l1, y0, y1, y2⟩ := BB.c3
    obtain ⟨l2, r0, r1, r2⟩ := BR.c3
    obtain ⟨f0, f1, f2⟩ := BR.f3
    clear h45 hb5
    generalize hW5 : w4.alloc (.cells #[.slice A4 N c4, .slice A5 N c5, .slice A6 N c6] 29) = w5 at *
    generalize hb6 : w4.heap.size = b6 at *
    obtain ⟨bl, z0, z1, z2⟩ := HPB.out.box.c3
    have HP1 := Lib.hid (place_any 0 m N (Num.shA n) (.slice A4 N c4) A5 A6 A0 A1 A2 c5 c6 a0 a1 a2 _ Wa _ Ja Oa S1 S2 W0 w5 HPB.out.o1 HPB.out.o2 HPB.out.d12 (fun k hk => HPB.out.base k (.inr hk) |>.1) bel5 ⟨RA.out.2.1, RA.out.2.2⟩ HSA.out (by have := HN.out; omega) (by omega) List.length_replicate (Num.trivJ_len _ _) (shOk_A HN.out HSA.out))
    have hBb := HPB.out.hB
    go_wp2_with (fail)
    clear hW5 hb6
    refine HP1.out.mono ?_; rintro e w6 ⟨rfl, o1, o2, ch⟩
    have PB6 := HPB.out.inWJ ch o1 o2
    have LS : ∀ k, S1 k ∨ S2 k → W0.heap.size ≤ k := fun k hk => (HPB.out.base k (.inr hk)).1
    have bel6 := bstepS bel5 bel5.size LS ch
    have HPB6 := Lib.hid PB6
    have BA6 := BA.chg ch (fun hh => by have := LS _ hh; omega)
    have BB6 := BB.chg ch (fun hh => by have := LS _ hh; omega)
    have BR6 := BR.chg ch (fun hh => by have := LS _ hh; omega)
    have bW6 := bstepS bW bW.size (fun k hk => by have := LS k hk; omega) ch
    clear HP1 HPB o1 o2 ch PB6 BA BB BR bW bel5 l0 x0 x1 x2 l1 y0 y1 y2 l2 r0 r1 r2 f0 f1 f2 bl z0 z1 z2
    obtain ⟨l0, x0, x1, x2⟩ := BA6.c3
    obtain ⟨l1, y0, y1, y2⟩ := BB6.c3
    obtain ⟨bl, z0, z1, z2⟩ := HPB6.out.box.c3
    have HP2 := Lib.hid (place_any m n N (Num.shB m) (.slice A4 N c4) A5 A6 B0 B1 B2 c5 c6 b0 b1 b2 _ Wb _ Jb Ob S1 S2 W0 w6 HPB6.out.o1 HPB6.out.o2 HPB6.out.d12 (fun k hk => HPB6.out.base k (.inr hk) |>.1) bel6 ⟨RB.out.2.1, RB.out.2.2⟩ HSB.out (by have := HN.out; omega) (by omega) (by rw [Num.pW_len]; exact List.length_replicate) (by rw [Num.pJ_len]; exact Num.trivJ_len _ _) (shOk_B (Num.shA n) HN.out HSB.out))
    go_wp2_with (fail)
    refine HP2.out.mono ?_; rintro e w7 ⟨rfl, o1, o2, ch⟩
    have PB7 := HPB6.out.inWJ ch o1 o2
    have HPB7 := Lib.hid PB7
    have BR7 := BR6.chg ch (fun hh => by have := LS _ hh; omega)
    have bW7 := bstepS bW6 bW6.size (fun k hk => by have := LS k hk; omega) ch
    clear HP2 HPB6 o1 o2 ch PB7 BA6 BB6 BR6 bW6 bel6 l0 x0 x1 x2 l1 y0 y1 y2 bl z0 z1 z2
    obtain ⟨bl, z0, z1, z2⟩ := HPB7.out.box.c3
    obtain ⟨l2, r0, r1, r2⟩ := BR7.c3
    obtain ⟨f0, f1, f2⟩ := BR7.f3
    have ne1 : ¬ (w.heap.size + 1 + 1 = b6) := by omega
    have ne2 : ¬ (b6 = w.heap.size + 1 + 1) := by omega
    go_wp2_with (fail)
    refine bodyPost_ret (v := .tuple #[.agg #[.slice A4 N c4, .slice A5 N c5, .slice A6 N c6], .int .i64 0]) (by simp [results, Try.results38, go_sem, l2, r0, r1, r2]) rfl ?_
    rw [HE.out.1, HE.out.2]
    have bs := HPB7.out.base
    have nb : ¬ ((fun k => S0 k ∨ S1 k ∨ S2 k) (w.heap.size + 1 + 1)) := fun h => by have := bs _ h; omega
    have ow : spPres.own w7 (fun k => S0 k ∨ S1 k ∨ S2 k) (.agg #[.slice A4 N c4, .slice A5 N c5, .slice A6 N c6]) (dpP ⟨Oa, Wa, Ja⟩ ⟨Ob, Wb, Jb⟩) := by
      have h9 := HPB7.out.own
      have e9 : dpP ⟨Oa, Wa, Ja⟩ ⟨Ob, Wb, Jb⟩ = ⟨Oa ++ Ob, Num.pW (Num.shB m) m Wb (Num.pW (Num.shA n) 0 Wa (List.replicate N (List.replicate N 0)) m) n, Num.pJ (Num.shB m) m Jb (Num.pJ (Num.shA n) 0 Ja (Num.trivJ N N) m) n⟩ := by
        show (⟨Oa ++ Ob, Num.dpW Oa.length Ob.length Wa Wb (trivP (Oa ++ Ob)).W, Num.dpJ Oa.length Ob.length Ja Jb (trivP (Oa ++ Ob)).J⟩ : Pres) = _
        rw [HSA.out.l0, HSB.out.l0, HT.out.1, HT.out.2]
        rfl
      rw [e9]
      exact h9
    refine ⟨_, _, rfl, ?_, fun k hk => by have := bs k hk; omega, HCN.out, ?_⟩
    · exact spPres.own_set (spPres.own_set (spPres.own_set ow (p := ⟨w.heap.size + 1 + 1, 0, none⟩) nb _) (p := ⟨w.heap.size + 1 + 1, 1, none⟩) nb _) (p := ⟨w.heap.size + 1 + 1, 2, none⟩) nb _
    · exact ((bW7.setCell (p := ⟨w.heap.size + 1 + 1, 0, none⟩) (by simp; omega) _).setCell (p := ⟨w.heap.size + 1 + 1, 1, none⟩) (by simp; omega) _).setCell (p := ⟨w.heap.size + 1 + 1, 2, none⟩) (by simp; omega) _
  · have HE : Hid (rDirectProduct ⟨Oa, Wa, Ja⟩ ⟨Ob, Wb, Jb⟩ = noPres ∧ cDirectProduct ⟨Oa, Wa, Ja⟩ ⟨Ob, Wb, Jb⟩ = Num.ordC (Oa ++ Ob)) := Lib.hid ⟨(dp_limit HX.out HY.out h0).1, if_pos ⟨HX.out, HY.out⟩⟩
    have hAb : rAbelianPresentation (Oa ++ Ob) = noPres ∧ cAbelianPresentation (Oa ++ Ob) = Num.ordC (Oa ++ Ob) := ⟨if_neg h0, rfl⟩
    rw [hAb.1, hAb.2] at HAB
    have T1 : (Num.ordC (Oa ++ Ob) != 0) = true := by simpa using h0
    clear h0 hAb
    generalize Num.ordC (Oa ++ Ob) = qc at *
    go_wp2_with (fail)
    refine HAB.out.mono ?_; rintro e w4 ⟨u, S, rfl, own, hS, -, hb4⟩
    obtain ⟨A4, n4, c4, A5, n5, c5, A6, n6', c6, rfl, -, -, -⟩ := spPres_form (spPres.own_rd own)
    have hb5 : Below w4.heap.size w4 (w4.alloc (.cells #[.slice A4 n4 c4, .slice A5 n5 c5, .slice A6 n6' c6] 29)) := by go_grown
    have h45 := bstep hb4 hb4.size hb5
    clear HAB own hS hb4 hb5
    replace bW := bstep bW bW.size h45
    replace BA := BA.below h45
    replace BB := BB.below h45
    replace BR := BR.below h45
    clear l0 x0 x1 x2 l1 y0 y1 y2 l2 r0 r1 r2 f0 f1 f2
    obtain ⟨l0, x0, x1, x2⟩ := BA.c3
    obtain ⟨l1, y0, y1, y2⟩ := BB.c3
    obtain ⟨l2, r0, r1, r2⟩ := BR.c3
    obtain ⟨f0, f1, f2⟩ := BR.f3
    clear h45
    go_wp2_with (fail)
    refine bodyPost_ret (v := .tuple #[.agg #[.slice none 0 0, .slice none 0 0, .slice none 0 0], .int .i64 qc]) (by simp [results, Try.results38, go_sem, l2, r0, r1, r2]) rfl ?_
    rw [HE.out.1, HE.out.2]
    exact noPres_set bW (by omega) _ _ _ _
end Go.Proofs.Ytncpngmplddbkaa
