/- The walk of the law of quotients of abelian groups. -/
import Derived.Test.YtpplojbcjgiabaaQuoA
import Derived.Test.YtpplojbcjgiabaaL07H
import Derived.Test.YtpplojbcjgiabaaL09I
import Derived.Test.YtpplojbcjgiabaaDrAb
import Derived.Test.YtpplojbcjgiabaaDrAe
import Derived.Test.YtpplojbcjgiabaaDrAf
namespace Go.Proofs.Ytpplojbcjgiabaa
open Go.RowKit
set_option linter.unusedVariables false
set_option linter.unusedSimpArgs false
theorem quo_draw (A : Option Addr) (len cap : Nat) (w : World) (hB : RdB w w.heap.size A len) (hlen : len ≤ 4096) : Calls Try.prog 18 #[.slice A len cap] w (TwoAb w) :=
  drawQuo_any A len cap w hB hlen fun q W hs => draw_any q A len cap W hs fun W2 hs2 => good_any q A len cap W2 hs2
set_option maxRecDepth 100000 in
set_option maxHeartbeats 4000000 in
theorem fnAbelianQuotients_walk (a0 : Option Addr) (len0 cap0 : Nat) (z0 : List Int) (w : World) (w0 : IsRow .u8 w a0 len0 cap0 z0) :
    Calls Try.prog 5 #[.slice a0 len0 cap0] w fun e w' => e = .returned (.bool true) ∧ Below w.heap.size w w' := by
  have hB := Lib.hid w0.rdB
  clear w0
  by_cases hl : 4096 < len0
  · go_enter Try.func5, Try.ntmps5
    go_wp2_with (go_at_call 6; refine (big_yes _ _ _ _ hl).mono ?_; rintro e w' ⟨rfl, rfl⟩)
    go_ret
    exact ⟨rfl, Below.refl _ _⟩
  · have hl' : len0 ≤ 4096 := by omega
    clear hl
    go_enter Try.func5, Try.ntmps5
    go_wp2_with (fail)
    refine (big_no _ _ _ _ hl').mono ?_; rintro e w' ⟨rfl, rfl⟩
    go_wp2_with (fail)
    refine (quo_draw _ _ _ _ hB.out hl').mono ?_; rintro e w1 ⟨v0, v1, x, y, rfl, h0, h1, L⟩
    obtain ⟨A0, n0, c0, rfl, r0⟩ := spAb_form h0
    obtain ⟨A1, n1, c1, rfl, r1⟩ := spAb_form h1
    have BA : Blk ((w1.alloc (.cells [.slice A0 n0 c0, (.int .i64 x.K : Value)].toArray 40)).alloc (.cells [.slice A1 n1 c1, (.int .i64 y.K : Value)].toArray 40)) w1.heap.size [.slice A0 n0 c0, .int .i64 x.K] 40 := (Blk.new w1 _ _).alloc _
    have BB : Blk ((w1.alloc (.cells [.slice A0 n0 c0, (.int .i64 x.K : Value)].toArray 40)).alloc (.cells [.slice A1 n1 c1, (.int .i64 y.K : Value)].toArray 40)) (w1.heap.size + 1) [.slice A1 n1 c1, .int .i64 y.K] 40 := by have := Blk.new (w1.alloc (.cells [.slice A0 n0 c0, (.int .i64 x.K : Value)].toArray 40)) [.slice A1 n1 c1, .int .i64 y.K] 40; rwa [World.size_alloc] at this
    have G : Below w1.heap.size w1 ((w1.alloc (.cells [.slice A0 n0 c0, (.int .i64 x.K : Value)].toArray 40)).alloc (.cells [.slice A1 n1 c1, (.int .i64 y.K : Value)].toArray 40)) := by go_grown
    have R0 := Lib.hid (spAb.rd_below h0 G)
    have R1 := Lib.hid (spAb.rd_below h1 G)
    replace L := bstep L L.size G
    clear h0 h1 r0 r1 G
    obtain ⟨aa, aa0, aa1⟩ := BA.c2
    obtain ⟨bb, bb0, bb1⟩ := BB.c2
    go_wp2_with (fail)
    refine (iHasAbelianQuotient_any _ _ x y _ R0.out R1.out).mono ?_; rintro e w2 ⟨rfl, hb⟩
    replace L := bstep L L.size hb
    replace BA := BA.below hb
    replace BB := BB.below hb
    replace R0 := Lib.hid (spAb.rd_below R0.out hb)
    replace R1 := Lib.hid (spAb.rd_below R1.out hb)
    clear aa aa0 aa1 bb bb0 bb1 hb
    obtain ⟨aa, aa0, aa1⟩ := BA.c2
    obtain ⟨bb, bb0, bb1⟩ := BB.c2
    go_wp2_with (fail)
    refine (sHasAbelianQuotient_any _ _ x y _ R0.out R1.out).mono ?_; rintro e w3 ⟨rfl, hb⟩
    replace L := bstep L L.size hb
    replace BA := BA.below hb
    replace BB := BB.below hb
    replace R0 := Lib.hid (spAb.rd_below R0.out hb)
    replace R1 := Lib.hid (spAb.rd_below R1.out hb)
    clear aa aa0 aa1 bb bb0 bb1 hb
    obtain ⟨aa, aa0, aa1⟩ := BA.c2
    obtain ⟨bb, bb0, bb1⟩ := BB.c2
    have TC : (cHasAbelianQuotient x y != cHasAbelianQuotient x y) = false := by simp
    by_cases hc : cHasAbelianQuotient x y = 0
    · obtain ⟨hx, hy⟩ := quo_code hc
      have HC2 := Lib.hid (Ab.quo_ok hy hx).2
      have HBK := Lib.hid (fun h => quo_back hx hy h)
      have HSM := Lib.hid (fun h => sum_quo hx hy h)
      rw [hc] at TC ⊢
      clear hc hx hy
      obtain ⟨D, hD⟩ : ∃ D, D = decide (x.F = y.F ∧ x.K = y.K) := ⟨_, rfl⟩
      obtain ⟨Q, hQ⟩ : ∃ Q, Q = rHasAbelianQuotient y x := ⟨_, rfl⟩
      have HLK := Lib.hid (fun W h h' => likeAb_any (.agg #[.slice A0 n0 c0, .int .i64 x.K]) (.agg #[.slice A1 n1 c1, .int .i64 y.K]) x y W h h')
      have HQQ := Lib.hid (fun W h h' => iHasAbelianQuotient_any (.agg #[.slice A1 n1 c1, .int .i64 y.K]) (.agg #[.slice A0 n0 c0, .int .i64 x.K]) y x W h h')
      rw [HC2.out] at HQQ
      rw [← hD] at HLK HBK
      rw [← hQ] at HQQ HBK
      clear hD hQ HC2
      generalize rHasAbelianQuotient x y = B at *
      have TB : (B != B) = false := by simp
      cases B with
      | true =>
        have e1 := HBK.out rfl
        subst e1
        clear HBK
        have TD : (Q != Q) = false := by simp
        go_wp2_with (fail)
        refine (HQQ.out _ R1.out R0.out).mono ?_; rintro e w4 ⟨rfl, hb⟩
        replace L := bstep L L.size hb
        replace BA := BA.below hb
        replace BB := BB.below hb
        replace R0 := Lib.hid (spAb.rd_below R0.out hb)
        replace R1 := Lib.hid (spAb.rd_below R1.out hb)
        clear aa aa0 aa1 bb bb0 bb1 hb
        obtain ⟨aa, aa0, aa1⟩ := BA.c2
        obtain ⟨bb, bb0, bb1⟩ := BB.c2
        go_wp2_with (fail)
        refine (HLK.out _ R0.out R1.out).mono ?_; rintro e w5 ⟨rfl, hb⟩
        replace L := bstep L L.size hb
        replace BA := BA.below hb
        replace BB := BB.below hb
        replace R0 := Lib.hid (spAb.rd_below R0.out hb)
        replace R1 := Lib.hid (spAb.rd_below R1.out hb)
        clear aa aa0 aa1 bb bb0 bb1 hb
        obtain ⟨aa, aa0, aa1⟩ := BA.c2
        obtain ⟨bb, bb0, bb1⟩ := BB.c2
        go_wp2_with (fail)
        refine (iSumAbelian_any _ _ x y _ R0.out R1.out).mono ?_; rintro e w6 ⟨uC, SC, rfl, ow, -, -, hb⟩
        have R2 := Lib.hid (spAb.own_rd ow)
        obtain ⟨AC, nC, cC, rfl, -⟩ := spAb_form R2.out
        clear ow
        replace L := bstep L L.size hb
        replace BA := BA.below hb
        replace BB := BB.below hb
        replace R0 := Lib.hid (spAb.rd_below R0.out hb)
        replace R1 := Lib.hid (spAb.rd_below R1.out hb)
        clear aa aa0 aa1 bb bb0 bb1 hb
        obtain ⟨aa, aa0, aa1⟩ := BA.c2
        obtain ⟨bb, bb0, bb1⟩ := BB.c2
        have BC : Blk (w6.alloc (.cells [.slice AC nC cC, (.int .i64 (rSumAbelian x y).K : Value)].toArray 40)) w6.heap.size [.slice AC nC cC, .int .i64 (rSumAbelian x y).K] 40 := Blk.new w6 _ _
        have hb : Below w6.heap.size w6 (w6.alloc (.cells [.slice AC nC cC, (.int .i64 (rSumAbelian x y).K : Value)].toArray 40)) := (Below.refl _ _).alloc (Nat.le_refl _) _
        replace L := bstep L L.size hb
        replace BA := BA.below hb
        replace BB := BB.below hb
        replace R0 := Lib.hid (spAb.rd_below R0.out hb)
        replace R1 := Lib.hid (spAb.rd_below R1.out hb)
        replace R2 := Lib.hid (spAb.rd_below R2.out hb)
        clear aa aa0 aa1 bb bb0 bb1 hb
        obtain ⟨aa, aa0, aa1⟩ := BA.c2
        obtain ⟨bb, bb0, bb1⟩ := BB.c2
        obtain ⟨cc, cc0, cc1⟩ := BC.c2
        go_wp2_with (fail)
        refine (sSumAbelian_any _ _ x y _ R0.out R1.out).mono ?_; rintro e w7 ⟨uD, SD, rfl, ow, -, -, hb⟩
        have R3 := Lib.hid (spAb.own_rd ow)
        obtain ⟨AD, nD, cD, rfl, -⟩ := spAb_form R3.out
        clear ow
        replace L := bstep L L.size hb
        replace BA := BA.below hb
        replace BB := BB.below hb
        replace BC := BC.below hb
        replace R0 := Lib.hid (spAb.rd_below R0.out hb)
        replace R1 := Lib.hid (spAb.rd_below R1.out hb)
        replace R2 := Lib.hid (spAb.rd_below R2.out hb)
        clear aa aa0 aa1 bb bb0 bb1 cc cc0 cc1 hb
        obtain ⟨aa, aa0, aa1⟩ := BA.c2
        obtain ⟨bb, bb0, bb1⟩ := BB.c2
        obtain ⟨cc, cc0, cc1⟩ := BC.c2
        have BD : Blk (w7.alloc (.cells [.slice AD nD cD, (.int .i64 (rSumAbelian x y).K : Value)].toArray 40)) w7.heap.size [.slice AD nD cD, .int .i64 (rSumAbelian x y).K] 40 := Blk.new w7 _ _
        have hb : Below w7.heap.size w7 (w7.alloc (.cells [.slice AD nD cD, (.int .i64 (rSumAbelian x y).K : Value)].toArray 40)) := (Below.refl _ _).alloc (Nat.le_refl _) _
        replace L := bstep L L.size hb
        replace BA := BA.below hb
        replace BB := BB.below hb
        replace BC := BC.below hb
        replace R0 := Lib.hid (spAb.rd_below R0.out hb)
        replace R1 := Lib.hid (spAb.rd_below R1.out hb)
        replace R2 := Lib.hid (spAb.rd_below R2.out hb)
        replace R3 := Lib.hid (spAb.rd_below R3.out hb)
        clear aa aa0 aa1 bb bb0 bb1 cc cc0 cc1 hb
        obtain ⟨aa, aa0, aa1⟩ := BA.c2
        obtain ⟨bb, bb0, bb1⟩ := BB.c2
        obtain ⟨cc, cc0, cc1⟩ := BC.c2
        obtain ⟨dd, dd0, dd1⟩ := BD.c2
        have TS : (cSumAbelian x y != cSumAbelian x y) = false := by simp
        have HL2 := Lib.hid (likeAb_any _ _ _ _ _ R2.out R3.out)
        rw [show decide ((rSumAbelian x y).F = (rSumAbelian x y).F ∧ (rSumAbelian x y).K = (rSumAbelian x y).K) = true from decide_eq_true ⟨rfl, rfl⟩] at HL2
        go_wp2_with (fail)
        refine HL2.out.mono ?_; rintro e w8 ⟨rfl, hb⟩
        clear HL2
        replace L := bstep L L.size hb
        replace BA := BA.below hb
        replace BB := BB.below hb
        replace BC := BC.below hb
        replace BD := BD.below hb
        replace R0 := Lib.hid (spAb.rd_below R0.out hb)
        replace R1 := Lib.hid (spAb.rd_below R1.out hb)
        replace R2 := Lib.hid (spAb.rd_below R2.out hb)
        replace R3 := Lib.hid (spAb.rd_below R3.out hb)
        clear aa aa0 aa1 bb bb0 bb1 cc cc0 cc1 dd dd0 dd1 hb
        obtain ⟨aa, aa0, aa1⟩ := BA.c2
        obtain ⟨bb, bb0, bb1⟩ := BB.c2
        obtain ⟨cc, cc0, cc1⟩ := BC.c2
        obtain ⟨dd, dd0, dd1⟩ := BD.c2
        by_cases hs : cSumAbelian x y = 0
        · obtain ⟨s1, s2, s3, s4⟩ := HSM.out hs
          have HQ1 := Lib.hid (fun W h h' => iHasAbelianQuotient_any (.agg #[.slice AD nD cD, .int .i64 (rSumAbelian x y).K]) (.agg #[.slice A0 n0 c0, .int .i64 x.K]) (rSumAbelian x y) x W h h')
          have HQ2 := Lib.hid (fun W h h' => iHasAbelianQuotient_any (.agg #[.slice AD nD cD, .int .i64 (rSumAbelian x y).K]) (.agg #[.slice A1 n1 c1, .int .i64 y.K]) (rSumAbelian x y) y W h h')
          rw [s1, s3] at HQ1
          rw [s2, s4] at HQ2
          rw [hs] at TS ⊢
          clear s1 s2 s3 s4 hs HSM
          go_wp2_with (fail)
          refine (HQ1.out _ R3.out R0.out).mono ?_; rintro e w9 ⟨rfl, hb⟩
          replace L := bstep L L.size hb
          replace BA := BA.below hb
          replace BB := BB.below hb
          replace BC := BC.below hb
          replace BD := BD.below hb
          replace R0 := Lib.hid (spAb.rd_below R0.out hb)
          replace R1 := Lib.hid (spAb.rd_below R1.out hb)
          replace R2 := Lib.hid (spAb.rd_below R2.out hb)
          replace R3 := Lib.hid (spAb.rd_below R3.out hb)
          clear aa aa0 aa1 bb bb0 bb1 cc cc0 cc1 dd dd0 dd1 hb
          obtain ⟨aa, aa0, aa1⟩ := BA.c2
          obtain ⟨bb, bb0, bb1⟩ := BB.c2
          obtain ⟨cc, cc0, cc1⟩ := BC.c2
          obtain ⟨dd, dd0, dd1⟩ := BD.c2
          go_wp2_with (fail)
          refine (HQ2.out _ R3.out R1.out).mono ?_; rintro e w10 ⟨rfl, hb⟩
          replace L := bstep L L.size hb
          replace BA := BA.below hb
          replace BB := BB.below hb
          replace BC := BC.below hb
          replace BD := BD.below hb
          replace R0 := Lib.hid (spAb.rd_below R0.out hb)
          replace R1 := Lib.hid (spAb.rd_below R1.out hb)
          replace R2 := Lib.hid (spAb.rd_below R2.out hb)
          replace R3 := Lib.hid (spAb.rd_below R3.out hb)
          clear aa aa0 aa1 bb bb0 bb1 cc cc0 cc1 dd dd0 dd1 hb
          obtain ⟨aa, aa0, aa1⟩ := BA.c2
          obtain ⟨bb, bb0, bb1⟩ := BB.c2
          obtain ⟨cc, cc0, cc1⟩ := BC.c2
          obtain ⟨dd, dd0, dd1⟩ := BD.c2
          go_wp2_with (fail)
          go_ret
          exact ⟨rfl, L⟩
        · have T9 : (cSumAbelian x y != 0) = true := by simpa using hs
          clear hs HSM
          generalize cSumAbelian x y = cs at *
          go_wp2_with (fail)
          go_ret
          exact ⟨rfl, L⟩
      | false =>
        clear HBK HLK
        go_wp2_with (fail)
        refine (HQQ.out _ R1.out R0.out).mono ?_; rintro e w4 ⟨rfl, hb⟩
        replace L := bstep L L.size hb
        replace BA := BA.below hb
        replace BB := BB.below hb
        replace R0 := Lib.hid (spAb.rd_below R0.out hb)
        replace R1 := Lib.hid (spAb.rd_below R1.out hb)
        clear aa aa0 aa1 bb bb0 bb1 hb
        obtain ⟨aa, aa0, aa1⟩ := BA.c2
        obtain ⟨bb, bb0, bb1⟩ := BB.c2
        go_wp2_with (fail)
        refine (iSumAbelian_any _ _ x y _ R0.out R1.out).mono ?_; rintro e w5 ⟨uC, SC, rfl, ow, -, -, hb⟩
        have R2 := Lib.hid (spAb.own_rd ow)
        obtain ⟨AC, nC, cC, rfl, -⟩ := spAb_form R2.out
        clear ow
        replace L := bstep L L.size hb
        replace BA := BA.below hb
        replace BB := BB.below hb
        replace R0 := Lib.hid (spAb.rd_below R0.out hb)
        replace R1 := Lib.hid (spAb.rd_below R1.out hb)
        clear aa aa0 aa1 bb bb0 bb1 hb
        obtain ⟨aa, aa0, aa1⟩ := BA.c2
        obtain ⟨bb, bb0, bb1⟩ := BB.c2
        have BC : Blk (w5.alloc (.cells [.slice AC nC cC, (.int .i64 (rSumAbelian x y).K : Value)].toArray 40)) w5.heap.size [.slice AC nC cC, .int .i64 (rSumAbelian x y).K] 40 := Blk.new w5 _ _
        have hb : Below w5.heap.size w5 (w5.alloc (.cells [.slice AC nC cC, (.int .i64 (rSumAbelian x y).K : Value)].toArray 40)) := (Below.refl _ _).alloc (Nat.le_refl _) _
        replace L := bstep L L.size hb
        replace BA := BA.below hb
        replace BB := BB.below hb
        replace R0 := Lib.hid (spAb.rd_below R0.out hb)
        replace R1 := Lib.hid (spAb.rd_below R1.out hb)
        replace R2 := Lib.hid (spAb.rd_below R2.out hb)
        clear aa aa0 aa1 bb bb0 bb1 hb
        obtain ⟨aa, aa0, aa1⟩ := BA.c2
        obtain ⟨bb, bb0, bb1⟩ := BB.c2
        obtain ⟨cc, cc0, cc1⟩ := BC.c2
        go_wp2_with (fail)
        refine (sSumAbelian_any _ _ x y _ R0.out R1.out).mono ?_; rintro e w6 ⟨uD, SD, rfl, ow, -, -, hb⟩
        have R3 := Lib.hid (spAb.own_rd ow)
        obtain ⟨AD, nD, cD, rfl, -⟩ := spAb_form R3.out
        clear ow
        replace L := bstep L L.size hb
        replace BA := BA.below hb
        replace BB := BB.below hb
        replace BC := BC.below hb
        replace R0 := Lib.hid (spAb.rd_below R0.out hb)
        replace R1 := Lib.hid (spAb.rd_below R1.out hb)
        replace R2 := Lib.hid (spAb.rd_below R2.out hb)
        clear aa aa0 aa1 bb bb0 bb1 cc cc0 cc1 hb
        obtain ⟨aa, aa0, aa1⟩ := BA.c2
        obtain ⟨bb, bb0, bb1⟩ := BB.c2
        obtain ⟨cc, cc0, cc1⟩ := BC.c2
        have BD : Blk (w6.alloc (.cells [.slice AD nD cD, (.int .i64 (rSumAbelian x y).K : Value)].toArray 40)) w6.heap.size [.slice AD nD cD, .int .i64 (rSumAbelian x y).K] 40 := Blk.new w6 _ _
        have hb : Below w6.heap.size w6 (w6.alloc (.cells [.slice AD nD cD, (.int .i64 (rSumAbelian x y).K : Value)].toArray 40)) := (Below.refl _ _).alloc (Nat.le_refl _) _
        replace L := bstep L L.size hb
        replace BA := BA.below hb
        replace BB := BB.below hb
        replace BC := BC.below hb
        replace R0 := Lib.hid (spAb.rd_below R0.out hb)
        replace R1 := Lib.hid (spAb.rd_below R1.out hb)
        replace R2 := Lib.hid (spAb.rd_below R2.out hb)
        replace R3 := Lib.hid (spAb.rd_below R3.out hb)
        clear aa aa0 aa1 bb bb0 bb1 cc cc0 cc1 hb
        obtain ⟨aa, aa0, aa1⟩ := BA.c2
        obtain ⟨bb, bb0, bb1⟩ := BB.c2
        obtain ⟨cc, cc0, cc1⟩ := BC.c2
        obtain ⟨dd, dd0, dd1⟩ := BD.c2
        have TS : (cSumAbelian x y != cSumAbelian x y) = false := by simp
        have HL2 := Lib.hid (likeAb_any _ _ _ _ _ R2.out R3.out)
        rw [show decide ((rSumAbelian x y).F = (rSumAbelian x y).F ∧ (rSumAbelian x y).K = (rSumAbelian x y).K) = true from decide_eq_true ⟨rfl, rfl⟩] at HL2
        go_wp2_with (fail)
        refine HL2.out.mono ?_; rintro e w7 ⟨rfl, hb⟩
        clear HL2
        replace L := bstep L L.size hb
        replace BA := BA.below hb
        replace BB := BB.below hb
        replace BC := BC.below hb
        replace BD := BD.below hb
        replace R0 := Lib.hid (spAb.rd_below R0.out hb)
        replace R1 := Lib.hid (spAb.rd_below R1.out hb)
        replace R2 := Lib.hid (spAb.rd_below R2.out hb)
        replace R3 := Lib.hid (spAb.rd_below R3.out hb)
        clear aa aa0 aa1 bb bb0 bb1 cc cc0 cc1 dd dd0 dd1 hb
        obtain ⟨aa, aa0, aa1⟩ := BA.c2
        obtain ⟨bb, bb0, bb1⟩ := BB.c2
        obtain ⟨cc, cc0, cc1⟩ := BC.c2
        obtain ⟨dd, dd0, dd1⟩ := BD.c2
        by_cases hs : cSumAbelian x y = 0
        · obtain ⟨s1, s2, s3, s4⟩ := HSM.out hs
          have HQ1 := Lib.hid (fun W h h' => iHasAbelianQuotient_any (.agg #[.slice AD nD cD, .int .i64 (rSumAbelian x y).K]) (.agg #[.slice A0 n0 c0, .int .i64 x.K]) (rSumAbelian x y) x W h h')
          have HQ2 := Lib.hid (fun W h h' => iHasAbelianQuotient_any (.agg #[.slice AD nD cD, .int .i64 (rSumAbelian x y).K]) (.agg #[.slice A1 n1 c1, .int .i64 y.K]) (rSumAbelian x y) y W h h')
          rw [s1, s3] at HQ1
          rw [s2, s4] at HQ2
          rw [hs] at TS ⊢
          clear s1 s2 s3 s4 hs HSM
          go_wp2_with (fail)
          refine (HQ1.out _ R3.out R0.out).mono ?_; rintro e w8 ⟨rfl, hb⟩
          replace L := bstep L L.size hb
          replace BA := BA.below hb
          replace BB := BB.below hb
          replace BC := BC.below hb
          replace BD := BD.below hb
          replace R0 := Lib.hid (spAb.rd_below R0.out hb)
          replace R1 := Lib.hid (spAb.rd_below R1.out hb)
          replace R2 := Lib.hid (spAb.rd_below R2.out hb)
          replace R3 := Lib.hid (spAb.rd_below R3.out hb)
          clear aa aa0 aa1 bb bb0 bb1 cc cc0 cc1 dd dd0 dd1 hb
          obtain ⟨aa, aa0, aa1⟩ := BA.c2
          obtain ⟨bb, bb0, bb1⟩ := BB.c2
          obtain ⟨cc, cc0, cc1⟩ := BC.c2
          obtain ⟨dd, dd0, dd1⟩ := BD.c2
          go_wp2_with (fail)
          refine (HQ2.out _ R3.out R1.out).mono ?_; rintro e w9 ⟨rfl, hb⟩
          replace L := bstep L L.size hb
          replace BA := BA.below hb
          replace BB := BB.below hb
          replace BC := BC.below hb
          replace BD := BD.below hb
          replace R0 := Lib.hid (spAb.rd_below R0.out hb)
          replace R1 := Lib.hid (spAb.rd_below R1.out hb)
          replace R2 := Lib.hid (spAb.rd_below R2.out hb)
          replace R3 := Lib.hid (spAb.rd_below R3.out hb)
          clear aa aa0 aa1 bb bb0 bb1 cc cc0 cc1 dd dd0 dd1 hb
          obtain ⟨aa, aa0, aa1⟩ := BA.c2
          obtain ⟨bb, bb0, bb1⟩ := BB.c2
          obtain ⟨cc, cc0, cc1⟩ := BC.c2
          obtain ⟨dd, dd0, dd1⟩ := BD.c2
          go_wp2_with (fail)
          go_ret
          exact ⟨rfl, L⟩
        · have T9 : (cSumAbelian x y != 0) = true := by simpa using hs
          clear hs HSM
          generalize cSumAbelian x y = cs at *
          go_wp2_with (fail)
          go_ret
          exact ⟨rfl, L⟩
    · have hok : x.ok = false ∨ y.ok = false := by
        cases hx : x.ok with
        | false => exact .inl rfl
        | true =>
          cases hy : y.ok with
          | false => exact .inr rfl
          | true => exact absurd (Ab.quo_ok hx hy).2 hc
      rw [(Ab.quo_bad hok).1, (Ab.quo_bad hok).2]
      clear hok hc TC
      go_wp2_with (fail)
      go_ret
      exact ⟨rfl, L⟩
end Go.Proofs.Ytpplojbcjgiabaa
