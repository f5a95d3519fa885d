/- The walk of the law of the group of reduced words. -/
import Derived.Test.YthakglpgcpkpaaaWordG
namespace Go.Proofs.Ythakglpgcpkpaaa
open Go.RowKit
set_option linter.unusedVariables false
set_option linter.unusedSimpArgs false

set_option maxRecDepth 100000 in
set_option maxHeartbeats 8000000 in
theorem fnWordGroup_walk (a0 : Option Addr) (len0 cap0 : Nat) (z0 : List Int) (w : World) (w0 : IsRow .u8 w a0 len0 cap0 z0) :
    Calls Try.prog 3 #[.slice a0 len0 cap0] w fun e w' => e = .returned (.bool true) ∧ Below w.heap.size w w' := by
  have hB := Lib.hid w0.rdB
  clear w0
  by_cases hl : 4096 < len0
  · go_enter Try.func3, Try.ntmps3
    go_wp2_with (go_at_call 15; refine (big_yes _ _ _ _ hl).mono ?_; rintro e w' ⟨rfl, rfl⟩)
    go_ret
    exact ⟨rfl, Below.refl _ _⟩
  · have hl' : len0 ≤ 4096 := by omega
    clear hl
    go_enter Try.func3, Try.ntmps3
    go_wp2_with (fail)
    refine (big_no _ _ _ _ hl').mono ?_; rintro e w' ⟨rfl, rfl⟩
    go_wp2_with (fail)
    refine (drawCommutator_any _ _ _ _ hB.out hl').mono ?_; rintro e w1 ⟨k, va, vb, a, b, rfl, ha, hb, L⟩
    obtain ⟨Aa, ca, rfl, -, -⟩ := spI_form ha
    obtain ⟨Ab, cb, rfl, -, -⟩ := spI_form hb
    have Ra := Lib.hid ha
    have Rb := Lib.hid hb
    clear ha hb hB
    go_wp2_with (fail)
    refine (iWordCommutator_any k _ _ a b _ Ra.out Rb.out).mono ?_; rintro e w2 ⟨uRc, SRc, rfl, ow, -, -, hb⟩
    replace Ra := Lib.hid (spI.rd_below Ra.out hb)
    replace Rb := Lib.hid (spI.rd_below Rb.out hb)
    replace L := bstep L L.size hb
    have Rc := Lib.hid (spI.own_rd ow)
    obtain ⟨ARc, cRc, rfl, -, -⟩ := spI_form Rc.out
    clear ow hb
    go_wp2_with (fail)
    refine (sWordCommutator_any k _ _ a b _ Ra.out Rb.out).mono ?_; rintro e w3 ⟨uRd, SRd, rfl, ow, -, -, hb⟩
    replace Ra := Lib.hid (spI.rd_below Ra.out hb)
    replace Rb := Lib.hid (spI.rd_below Rb.out hb)
    replace Rc := Lib.hid (spI.rd_below Rc.out hb)
    replace L := bstep L L.size hb
    have Rd := Lib.hid (spI.own_rd ow)
    obtain ⟨ARd, cRd, rfl, -, -⟩ := spI_form Rd.out
    clear ow hb
    have TC : (cWordCommutator k a b != cWordCommutator k a b) = false := by simp
    go_wp2_with (fail)
    refine (likeS_same _ _ _ _ _ Rc.out Rd.out rfl).mono ?_; rintro e w4 ⟨rfl, hb⟩
    replace Ra := Lib.hid (spI.rd_below Ra.out hb)
    replace Rb := Lib.hid (spI.rd_below Rb.out hb)
    replace Rc := Lib.hid (spI.rd_below Rc.out hb)
    replace Rd := Lib.hid (spI.rd_below Rd.out hb)
    replace L := bstep L L.size hb
    clear hb
    clear Rd
    go_wp2_with (fail)
    refine (iMultiplyWords_any k _ _ a b _ Ra.out Rb.out).mono ?_; rintro e w5 ⟨uRe, SRe, rfl, ow, -, -, hb⟩
    replace Ra := Lib.hid (spI.rd_below Ra.out hb)
    replace Rb := Lib.hid (spI.rd_below Rb.out hb)
    replace Rc := Lib.hid (spI.rd_below Rc.out hb)
    replace L := bstep L L.size hb
    have Re := Lib.hid (spI.own_rd ow)
    obtain ⟨ARe, cRe, rfl, -, -⟩ := spI_form Re.out
    clear ow hb
    go_wp2_with (fail)
    refine (iMultiplyWords_any k _ _ b a _ Rb.out Ra.out).mono ?_; rintro e w6 ⟨uRf, SRf, rfl, ow, -, -, hb⟩
    replace Ra := Lib.hid (spI.rd_below Ra.out hb)
    replace Rb := Lib.hid (spI.rd_below Rb.out hb)
    replace Rc := Lib.hid (spI.rd_below Rc.out hb)
    replace Re := Lib.hid (spI.rd_below Re.out hb)
    replace L := bstep L L.size hb
    have Rf := Lib.hid (spI.own_rd ow)
    obtain ⟨ARf, cRf, rfl, -, -⟩ := spI_form Rf.out
    clear ow hb
    by_cases hz : Num.codeW k [a, b] = 0
    · have c1 := limC_cases (comW a b)
      rw [← (com_of hz).1] at c1
      have c2 := limC_cases (a ++ b)
      rw [← (mul_of hz).1] at c2
      have hz' : Num.codeW k [b, a] = 0 := by
        obtain ⟨hk, hw⟩ := Num.codeW_zero hz
        exact code_two_of hk (hw b (by simp)) (hw a (by simp))
      have c3 := limC_cases (b ++ a)
      rw [← (mul_of hz').1] at c3
      by_cases hab : cMultiplyWords k a b = 0 ∧ cMultiplyWords k b a = 0
      · obtain ⟨hA, hB⟩ := hab
        obtain ⟨g1, g2, g3, g4, g5, g6, g7, g8⟩ := group_ok hz hA hB
        have G1 := Lib.hid g1
        have G7 := Lib.hid g7
        have G8 := Lib.hid g8
        have G2 := Lib.hid g2
        have G3 := Lib.hid g3
        have G4 := Lib.hid g4
        have G5 := Lib.hid g5
        have G6 := Lib.hid g6
        have HA := Lib.hid hA
        have HB := Lib.hid hB
        have C1 := Lib.hid c1
        clear g1 g2 g3 g4 g5 g6 g7 g8 c1 c2 c3 hz hz'
        rw [hA, hB]
        clear hA hB
        -- the commutator is empty exactly if both products are equal
        obtain ⟨D, hD⟩ : ∃ D, D = decide (rMultiplyWords k a b = rMultiplyWords k b a) := ⟨_, rfl⟩
        have HLK := Lib.hid (fun W hv hu => likeS_any (.slice ARe (rMultiplyWords k a b).length cRe) (.slice ARf (rMultiplyWords k b a).length cRf) (rMultiplyWords k a b) (rMultiplyWords k b a) W hv hu)
        rw [← hD] at HLK
        have TD : (D != D) = false := by simp
        have HCUT : Hid (∀ (W : World), cWordCommutator k a b = 0 → (((rWordCommutator k a b).length : Int) == 0) = D) := Lib.hid (fun _ h => by rw [hD]; exact G1.out h)
        clear hD G1
        have HTAIL : Hid (cWordCommutator k a b = 0 ∨ cWordCommutator k a b = 3) := C1
        obtain ⟨cc, hcc⟩ : ∃ cc, cWordCommutator k a b = cc := ⟨_, rfl⟩
        rw [hcc] at HCUT C1 HTAIL TC ⊢
        clear hcc HTAIL
        generalize hm : (rWordCommutator k a b).length = m at *
        have HM := Lib.hid hm
        clear hm
        rcases C1.out with rfl | rfl
        · clear C1
          have E1 := HCUT.out w rfl
          clear HCUT
          go_wp2_with (fail)
          refine (HLK.out _ Re.out Rf.out).mono ?_; rintro e w7 ⟨rfl, hb⟩
          replace Ra := Lib.hid (spI.rd_below Ra.out hb)
          replace Rb := Lib.hid (spI.rd_below Rb.out hb)
          replace Rc := Lib.hid (spI.rd_below Rc.out hb)
          replace Re := Lib.hid (spI.rd_below Re.out hb)
          replace Rf := Lib.hid (spI.rd_below Rf.out hb)
          replace L := bstep L L.size hb
          clear hb HLK
          go_wp2_with (fail)
          refine (iInvertWord_any k _ a _ Ra.out).mono ?_; rintro e w8 ⟨uRg, SRg, rfl, ow, -, -, hb⟩
          replace Ra := Lib.hid (spI.rd_below Ra.out hb)
          replace Rb := Lib.hid (spI.rd_below Rb.out hb)
          replace Rc := Lib.hid (spI.rd_below Rc.out hb)
          replace Re := Lib.hid (spI.rd_below Re.out hb)
          replace Rf := Lib.hid (spI.rd_below Rf.out hb)
          replace L := bstep L L.size hb
          have Rg := Lib.hid (spI.own_rd ow)
          obtain ⟨ARg, cRg, rfl, -, -⟩ := spI_form Rg.out
          clear ow hb
          rw [G2.out]
          go_wp2_with (fail)
          refine (iMultiplyWords_any k _ _ a (rInvertWord k a) _ Ra.out Rg.out).mono ?_; rintro e w9 ⟨uRh, SRh, rfl, ow, -, -, hb⟩
          replace Ra := Lib.hid (spI.rd_below Ra.out hb)
          replace Rb := Lib.hid (spI.rd_below Rb.out hb)
          replace Rc := Lib.hid (spI.rd_below Rc.out hb)
          replace Re := Lib.hid (spI.rd_below Re.out hb)
          replace Rf := Lib.hid (spI.rd_below Rf.out hb)
          replace Rg := Lib.hid (spI.rd_below Rg.out hb)
          replace L := bstep L L.size hb
          have Rh := Lib.hid (spI.own_rd ow)
          obtain ⟨ARh, cRh, rfl, -, -⟩ := spI_form Rh.out
          clear ow hb
          rw [G3.out]
          rw [G4.out] at *
          clear Rg
          go_wp2_with (fail)
          refine (iMultiplyWords_any k _ _ (rMultiplyWords k a b) a _ Re.out Ra.out).mono ?_; rintro e w10 ⟨uRx, SRx, rfl, ow, -, -, hb⟩
          replace Ra := Lib.hid (spI.rd_below Ra.out hb)
          replace Rb := Lib.hid (spI.rd_below Rb.out hb)
          replace Rc := Lib.hid (spI.rd_below Rc.out hb)
          replace Re := Lib.hid (spI.rd_below Re.out hb)
          replace Rf := Lib.hid (spI.rd_below Rf.out hb)
          replace Rh := Lib.hid (spI.rd_below Rh.out hb)
          replace L := bstep L L.size hb
          have Rx := Lib.hid (spI.own_rd ow)
          obtain ⟨ARx, cRx, rfl, -, -⟩ := spI_form Rx.out
          clear ow hb
          go_wp2_with (fail)
          refine (iMultiplyWords_any k _ _ a (rMultiplyWords k b a) _ Ra.out Rf.out).mono ?_; rintro e w11 ⟨uRy, SRy, rfl, ow, -, -, hb⟩
          replace Ra := Lib.hid (spI.rd_below Ra.out hb)
          replace Rb := Lib.hid (spI.rd_below Rb.out hb)
          replace Rc := Lib.hid (spI.rd_below Rc.out hb)
          replace Re := Lib.hid (spI.rd_below Re.out hb)
          replace Rf := Lib.hid (spI.rd_below Rf.out hb)
          replace Rh := Lib.hid (spI.rd_below Rh.out hb)
          replace Rx := Lib.hid (spI.rd_below Rx.out hb)
          replace L := bstep L L.size hb
          have Ry := Lib.hid (spI.own_rd ow)
          obtain ⟨ARy, cRy, rfl, -, -⟩ := spI_form Ry.out
          clear ow hb
          rw [G5.out]
          rcases G7.out with h0 | h0
          · have H8 := Lib.hid (G8.out h0)
            rw [h0]
            clear h0 G7 G8
            go_wp2_with (fail)
            refine (likeS_same _ _ _ _ _ Rx.out Ry.out G6.out.symm).mono ?_; rintro e w12 ⟨rfl, hb⟩
            replace Ra := Lib.hid (spI.rd_below Ra.out hb)
            replace Rb := Lib.hid (spI.rd_below Rb.out hb)
            replace Rc := Lib.hid (spI.rd_below Rc.out hb)
            replace Re := Lib.hid (spI.rd_below Re.out hb)
            replace Rf := Lib.hid (spI.rd_below Rf.out hb)
            replace Rh := Lib.hid (spI.rd_below Rh.out hb)
            replace Rx := Lib.hid (spI.rd_below Rx.out hb)
            replace Ry := Lib.hid (spI.rd_below Ry.out hb)
            replace L := bstep L L.size hb
            clear hb
            have HRW := Lib.hid (iIsReducedWord_any k _ (rMultiplyWords k (rMultiplyWords k a b) a) _ Rx.out)
            rw [H8.out] at HRW
            go_wp2_with (fail)
            refine HRW.out.mono ?_; rintro e w13 ⟨rfl, hb⟩
            replace L := bstep L L.size hb
            go_wp2_with (fail)
            go_ret
            exact ⟨rfl, L⟩
          · rw [h0]
            clear h0 G7 G8
            go_wp2_with (fail)
            go_ret
            exact ⟨rfl, L⟩
        · clear C1
          clear HCUT HLK
          go_wp2_with (fail)
          refine (iInvertWord_any k _ a _ Ra.out).mono ?_; rintro e w7 ⟨uRg, SRg, rfl, ow, -, -, hb⟩
          replace Ra := Lib.hid (spI.rd_below Ra.out hb)
          replace Rb := Lib.hid (spI.rd_below Rb.out hb)
          replace Rc := Lib.hid (spI.rd_below Rc.out hb)
          replace Re := Lib.hid (spI.rd_below Re.out hb)
          replace Rf := Lib.hid (spI.rd_below Rf.out hb)
          replace L := bstep L L.size hb
          have Rg := Lib.hid (spI.own_rd ow)
          obtain ⟨ARg, cRg, rfl, -, -⟩ := spI_form Rg.out
          clear ow hb
          rw [G2.out]
          go_wp2_with (fail)
          refine (iMultiplyWords_any k _ _ a (rInvertWord k a) _ Ra.out Rg.out).mono ?_; rintro e w8 ⟨uRh, SRh, rfl, ow, -, -, hb⟩
          replace Ra := Lib.hid (spI.rd_below Ra.out hb)
          replace Rb := Lib.hid (spI.rd_below Rb.out hb)
          replace Rc := Lib.hid (spI.rd_below Rc.out hb)
          replace Re := Lib.hid (spI.rd_below Re.out hb)
          replace Rf := Lib.hid (spI.rd_below Rf.out hb)
          replace Rg := Lib.hid (spI.rd_below Rg.out hb)
          replace L := bstep L L.size hb
          have Rh := Lib.hid (spI.own_rd ow)
          obtain ⟨ARh, cRh, rfl, -, -⟩ := spI_form Rh.out
          clear ow hb
          rw [G3.out]
          rw [G4.out] at *
          clear Rg
          go_wp2_with (fail)
          refine (iMultiplyWords_any k _ _ (rMultiplyWords k a b) a _ Re.out Ra.out).mono ?_; rintro e w9 ⟨uRx, SRx, rfl, ow, -, -, hb⟩
          replace Ra := Lib.hid (spI.rd_below Ra.out hb)
          replace Rb := Lib.hid (spI.rd_below Rb.out hb)
          replace Rc := Lib.hid (spI.rd_below Rc.out hb)
          replace Re := Lib.hid (spI.rd_below Re.out hb)
          replace Rf := Lib.hid (spI.rd_below Rf.out hb)
          replace Rh := Lib.hid (spI.rd_below Rh.out hb)
          replace L := bstep L L.size hb
          have Rx := Lib.hid (spI.own_rd ow)
          obtain ⟨ARx, cRx, rfl, -, -⟩ := spI_form Rx.out
          clear ow hb
          go_wp2_with (fail)
          refine (iMultiplyWords_any k _ _ a (rMultiplyWords k b a) _ Ra.out Rf.out).mono ?_; rintro e w10 ⟨uRy, SRy, rfl, ow, -, -, hb⟩
          replace Ra := Lib.hid (spI.rd_below Ra.out hb)
          replace Rb := Lib.hid (spI.rd_below Rb.out hb)
          replace Rc := Lib.hid (spI.rd_below Rc.out hb)
          replace Re := Lib.hid (spI.rd_below Re.out hb)
          replace Rf := Lib.hid (spI.rd_below Rf.out hb)
          replace Rh := Lib.hid (spI.rd_below Rh.out hb)
          replace Rx := Lib.hid (spI.rd_below Rx.out hb)
          replace L := bstep L L.size hb
          have Ry := Lib.hid (spI.own_rd ow)
          obtain ⟨ARy, cRy, rfl, -, -⟩ := spI_form Ry.out
          clear ow hb
          rw [G5.out]
          rcases G7.out with h0 | h0
          · have H8 := Lib.hid (G8.out h0)
            rw [h0]
            clear h0 G7 G8
            go_wp2_with (fail)
            refine (likeS_same _ _ _ _ _ Rx.out Ry.out G6.out.symm).mono ?_; rintro e w11 ⟨rfl, hb⟩
            replace Ra := Lib.hid (spI.rd_below Ra.out hb)
            replace Rb := Lib.hid (spI.rd_below Rb.out hb)
            replace Rc := Lib.hid (spI.rd_below Rc.out hb)
            replace Re := Lib.hid (spI.rd_below Re.out hb)
            replace Rf := Lib.hid (spI.rd_below Rf.out hb)
            replace Rh := Lib.hid (spI.rd_below Rh.out hb)
            replace Rx := Lib.hid (spI.rd_below Rx.out hb)
            replace Ry := Lib.hid (spI.rd_below Ry.out hb)
            replace L := bstep L L.size hb
            clear hb
            have HRW := Lib.hid (iIsReducedWord_any k _ (rMultiplyWords k (rMultiplyWords k a b) a) _ Rx.out)
            rw [H8.out] at HRW
            go_wp2_with (fail)
            refine HRW.out.mono ?_; rintro e w12 ⟨rfl, hb⟩
            replace L := bstep L L.size hb
            go_wp2_with (fail)
            go_ret
            exact ⟨rfl, L⟩
          · rw [h0]
            clear h0 G7 G8
            go_wp2_with (fail)
            go_ret
            exact ⟨rfl, L⟩
      · clear hz hz'
        generalize cWordCommutator k a b = x at *
        generalize cMultiplyWords k a b = y at *
        generalize cMultiplyWords k b a = z at *
        rcases c1 with rfl | rfl <;> rcases c2 with rfl | rfl <;> rcases c3 with rfl | rfl
        all_goals first
          | exact absurd ⟨rfl, rfl⟩ hab
          | (clear hab
             go_wp2_with (fail)
             go_ret
             exact ⟨rfl, L⟩)
    · obtain ⟨m1, m2⟩ := mul_bad hz
      rw [m1, m2]
      have T1 : (Num.codeW k [a, b] != 0) = true := by simpa using hz
      clear m1 m2 hz
      generalize Num.codeW k [a, b] = cd at *
      go_wp2_with (fail)
      go_ret
      exact ⟨rfl, L⟩
end Go.Proofs.Ythakglpgcpkpaaa
