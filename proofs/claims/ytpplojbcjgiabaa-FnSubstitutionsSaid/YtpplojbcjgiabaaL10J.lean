/- Words: SubstituteWord, what is refused; the model. -/
import Derived.Test.YtpplojbcjgiabaaL10I
namespace Go.Proofs.Ytpplojbcjgiabaa
open Go.RowKit
set_option linter.unusedVariables false
set_option linter.unusedSimpArgs false

theorem Below.same {w w' : World} (h : w = w') : Below w.heap.size w w' := h ▸ Below.refl _ _
set_option maxRecDepth 100000 in
set_option maxHeartbeats 1000000 in
theorem iSubst_range (k m : Int) (A C : Option Addr) (c d n : Nat) (x : List Int) (w : World) (h : ¬ ((0 ≤ k ∧ k ≤ 6) ∧ 0 ≤ m ∧ m ≤ 6)) :
    Calls Try.prog 8 #[.int .i64 k, .slice A x.length c, .int .i64 m, .slice C n d] w fun e w' => e = .returned (.tuple #[.slice none 0 0, .int .i64 2]) ∧ w = w' := by
  by_cases h1 : 0 ≤ k ∧ k ≤ 6
  · have h2 : ¬ (0 ≤ m ∧ m ≤ 6) := fun hh => h ⟨h1, hh⟩
    clear h
    go_enter Try.func8, Try.ntmps8
    go_wp2_with (first | (go_at_call 28; (with_reducible refine (genCount_yes k _ h1).mono ?_); rintro e w' ⟨rfl, rfl⟩) | (go_at_call 28; (with_reducible refine (genCount_no m _ h2).mono ?_); rintro e w' ⟨rfl, rfl⟩))
    go_ret2
    exact ⟨rfl, rfl⟩
  · clear h
    go_enter Try.func8, Try.ntmps8
    go_wp2_with (first | (go_at_call 28; (with_reducible refine (genCount_no k _ h1).mono ?_); rintro e w' ⟨rfl, rfl⟩))
    go_ret2
    exact ⟨rfl, rfl⟩
set_option maxRecDepth 100000 in
set_option maxHeartbeats 2000000 in
theorem iSubst_bad (k m : Int) (A C : Option Addr) (c d : Nat) (x : List Int) (imgs : List (List Int)) (w : World) (hA : RdI w A x) (hx : x.length ≤ maxLen) (hC : RdW w C imgs) (hi : imgs.length ≤ maxLen) (h : (0 ≤ k ∧ k ≤ 6) ∧ 0 ≤ m ∧ m ≤ 6) (hn : ¬ (Num.isWB k x = true ∧ (imgs.length : Int) = k ∧ imgs.all (Num.isWB m) = true)) :
    Calls Try.prog 8 #[.int .i64 k, .slice A x.length c, .int .i64 m, .slice C imgs.length d] w fun e w' => e = .returned (.tuple #[.slice none 0 0, .int .i64 1]) ∧ w = w' := by
  obtain ⟨h1, h2⟩ := h
  have hw := isWord_in k A c x w hA hx h1
  have hcc := wordsCode_any m C imgs.length d imgs w hC rfl hi
  cases hb : Num.isWB k x with
  | false =>
    rw [hb] at hw
    have HW := Lib.hid hw
    clear hw hcc hn hb hA hC hx hi
    go_enter Try.func8, Try.ntmps8
    go_wp2_with (first | (go_at_call 28; (with_reducible refine (genCount_yes k _ h1).mono ?_); rintro e w' ⟨rfl, rfl⟩) | (go_at_call 28; (with_reducible refine (genCount_yes m _ h2).mono ?_); rintro e w' ⟨rfl, rfl⟩) | (go_at_call 16; refine HW.out.mono ?_; rintro e w' ⟨rfl, rfl⟩))
    go_ret2
    exact ⟨rfl, rfl⟩
  | true =>
    rw [hb] at hw
    have HW := Lib.hid hw
    by_cases hk : (imgs.length : Int) = k
    · have ha : ¬ imgs.all (Num.isWB m) = true := fun ha => hn ⟨hb, hk, ha⟩
      rw [show Num.codeW m imgs = 1 by unfold Num.codeW; rw [if_pos h2, if_neg ha]] at hcc
      have HCC := Lib.hid hcc
      have T1 : ((imgs.length : Int) != k) = false := by simp [hk]
      clear hw hcc hn hb hA hC ha hk hx hi
      go_enter Try.func8, Try.ntmps8
      go_wp2_with (first | (go_at_call 28; (with_reducible refine (genCount_yes k _ h1).mono ?_); rintro e w' ⟨rfl, rfl⟩) | (go_at_call 28; (with_reducible refine (genCount_yes m _ h2).mono ?_); rintro e w' ⟨rfl, rfl⟩) | (go_at_call 16; refine HW.out.mono ?_; rintro e w' ⟨rfl, rfl⟩) | (go_at_call 29; refine HCC.out.mono ?_; rintro e w' ⟨rfl, rfl⟩))
      go_ret2
      exact ⟨rfl, rfl⟩
    · have T1 : ((imgs.length : Int) != k) = true := by simpa using hk
      clear hw hcc hn hb hA hC hk hx hi
      go_enter Try.func8, Try.ntmps8
      go_wp2_with (first | (go_at_call 28; (with_reducible refine (genCount_yes k _ h1).mono ?_); rintro e w' ⟨rfl, rfl⟩) | (go_at_call 28; (with_reducible refine (genCount_yes m _ h2).mono ?_); rintro e w' ⟨rfl, rfl⟩) | (go_at_call 16; refine HW.out.mono ?_; rintro e w' ⟨rfl, rfl⟩))
      go_ret2
      exact ⟨rfl, rfl⟩
theorem iSubstituteWord_any (k m : Int) (v u : Value) (x : List Int) (imgs : List (List Int)) (w : World) (h : spI.rd w v x) (h' : spII.rd w u imgs) :
    Calls Try.prog 8 #[.int .i64 k, v, .int .i64 m, u] w (MadeC spI (rSubstituteWord k x m imgs) (cSubstituteWord k x m imgs) w) := by
  obtain ⟨A, c, rfl, hm, hA⟩ := h
  have hw := h'
  obtain ⟨C, d, rfl, hm', -⟩ := h'
  obtain ⟨-, -, hC⟩ := RdW.of hw
  by_cases hr : (0 ≤ k ∧ k ≤ 6) ∧ 0 ≤ m ∧ m ≤ 6
  · by_cases hn : Num.isWB k x = true ∧ (imgs.length : Int) = k ∧ imgs.all (Num.isWB m) = true
    · obtain ⟨e1, e2⟩ := sub_good hr hn
      rw [e1, e2]
      refine (iSubst_good k m A C c d x imgs w hA hC hr hn).mono ?_
      rintro e w' ⟨r, rfl, own, bel⟩
      exact MadeC.list own (by have := Num.limR_len (Num.repW imgs x); omega) bel
    · obtain ⟨e1, e2⟩ := sub_bad hr hn
      rw [e1, e2]
      refine (iSubst_bad k m A C c d x imgs w hA hm hC hm' hr hn).mono ?_
      rintro e w' ⟨rfl, hw'⟩
      exact MadeC.nilW (Below.same hw')
  · obtain ⟨e1, e2⟩ := sub_range (x := x) (imgs := imgs) hr
    rw [e1, e2]
    refine (iSubst_range k m A C c d imgs.length x w hr).mono ?_
    rintro e w' ⟨rfl, hw'⟩
    exact MadeC.nilW (Below.same hw')

end Go.Proofs.Ytpplojbcjgiabaa
