/- The walk of the law of texts of words. -/
import Derived.Test.YtpplojbcjgiabaaD6C
namespace Go.Proofs.Ytpplojbcjgiabaa
open Go.RowKit
set_option linter.unusedVariables false
set_option linter.unusedSimpArgs false

set_option maxRecDepth 100000 in
set_option maxHeartbeats 4000000 in
theorem fnWordTexts_walk (a0 : Option Addr) (len0 cap0 : Nat) (z0 : List Int) (w : World) (w0 : IsRow .u8 w a0 len0 cap0 z0) :
    Calls Try.prog 4 #[.slice a0 len0 cap0] w fun e w' => e = .returned (.bool true) ∧ Below w.heap.size w w' := by
  have hB := Lib.hid w0.rdB
  clear w0
  by_cases hl : 4096 < len0
  · go_enter Try.func4, Try.ntmps4
    go_wp2_with (go_at_call 6; refine (big_yes _ _ _ _ hl).mono ?_; rintro e w' ⟨rfl, rfl⟩)
    go_ret
    exact ⟨rfl, Below.refl _ _⟩
  · have hl' : len0 ≤ 4096 := by omega
    clear hl
    go_enter Try.func4, Try.ntmps4
    go_wp2_with (fail)
    refine (big_no _ _ _ _ hl').mono ?_; rintro e w' ⟨rfl, rfl⟩
    go_wp2_with (fail)
    refine (drawText_any _ _ _ _ hB.out hl').mono ?_; rintro e w1 ⟨k, va, a, rfl, ha, L⟩
    obtain ⟨Aa, ca, rfl, hm, -⟩ := spI_form ha
    have Ra := Lib.hid ha
    clear ha hB
    go_wp2_with (fail)
    refine (iWordText_any k _ a _ Ra.out).mono ?_; rintro e w2 ⟨rfl, hb⟩
    replace Ra := Lib.hid (spI.rd_below Ra.out hb)
    replace L := bstep L L.size hb
    clear hb
    go_wp2_with (fail)
    refine (sWordText_any k _ a _ Ra.out).mono ?_; rintro e w3 ⟨rfl, hb⟩
    replace Ra := Lib.hid (spI.rd_below Ra.out hb)
    replace L := bstep L L.size hb
    clear hb
    have TC : (cWordText k a != cWordText k a) = false := by simp
    by_cases hz : Num.codeW k [a] = 0
    · have hk := (Num.codeW_zero hz).1
      have hw := (Num.codeW_zero hz).2 a (by simp)
      obtain ⟨p1, p2, p3⟩ := text_parsed hk hw
      have e1 : rWordText k a = tWord a := if_pos hz
      have e2 : cWordText k a = 0 := hz
      rw [e1, e2] at *
      have HP := Lib.hid (fun W => iParseWord_any k (tWord a) W p3)
      rw [p1, p2] at HP
      clear hz hk hw p1 p2 p3 e1 e2
      generalize tWord a = t at *
      go_wp2_with (fail)
      refine (HP.out _).mono ?_; rintro e w4 ⟨u4, S4, rfl, ow, -, -, hb⟩
      replace Ra := Lib.hid (spI.rd_below Ra.out hb)
      replace L := bstep L L.size hb
      have R4 := Lib.hid (spI.own_rd ow)
      obtain ⟨A4, c4, rfl, -, -⟩ := spI_form R4.out
      clear ow hb HP
      go_wp2_with (fail)
      refine (likeS_same _ _ _ _ _ R4.out Ra.out rfl).mono ?_; rintro e w5 ⟨rfl, hb⟩
      replace L := bstep L L.size hb
      go_wp2_with (fail)
      go_ret
      exact ⟨rfl, L⟩
    · have e2 : cWordText k a = Num.codeW k [a] := rfl
      have hno : Num.isW k a = false := by
        rw [Num.isW_code]; exact decide_eq_false hz
      have T1 : (Num.codeW k [a] != 0) = true := by simpa using hz
      rw [e2] at *
      have HI := Lib.hid (fun W h => isWord_any k Aa ca a W h hm)
      rw [hno] at HI
      have ⟨A', c', e', _, hr⟩ := Ra.out
      have HRD : Hid (RdI w3 Aa a) := Lib.hid (by
        simp only [Value.slice.injEq] at e'
        obtain ⟨rfl, -, -⟩ := e'
        exact hr)
      clear hz hno e2 e' hr
      generalize Num.codeW k [a] = cd at *
      generalize rWordText k a = t at *
      go_wp2_with (fail)
      refine (HI.out _ HRD.out).mono ?_; rintro e w4 ⟨rfl, rfl⟩
      go_wp2_with (fail)
      go_ret
      exact ⟨rfl, L⟩
end Go.Proofs.Ytpplojbcjgiabaa
