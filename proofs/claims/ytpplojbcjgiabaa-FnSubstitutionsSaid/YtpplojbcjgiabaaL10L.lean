/- Words: SubstituteWord of the model, what is refused. -/
import Derived.Test.YtpplojbcjgiabaaL10I
namespace Go.Proofs.Ytpplojbcjgiabaa
open Go.RowKit
set_option linter.unusedVariables false
set_option linter.unusedSimpArgs false

set_option maxRecDepth 100000 in
set_option maxHeartbeats 2000000 in
theorem sSubst_range (k m : Int) (A C : Option Addr) (c d n l : Nat) (w : World) (h : ¬ ((0 ≤ k ∧ k ≤ 6) ∧ 0 ≤ m ∧ m ≤ 6)) :
    Calls Try.prog 9 #[.int .i64 k, .slice A l c, .int .i64 m, .slice C n d] w fun e w' => e = .returned (.tuple #[.slice none 0 0, .int .i64 2]) ∧ w = w' := by
  by_cases h1 : 0 ≤ k ∧ k ≤ 6
  · have h2 : Hid (m < 0 ∨ 6 < m) := Lib.hid (by omega)
    clear h
    go_enter Try.func9, Try.ntmps9
    go_wp2_with (first | (go_at_call 32; (with_reducible refine (sIn_yes k 0 6 _ h1.1 h1.2).mono ?_); rintro e w' ⟨rfl, rfl⟩) | (go_at_call 32; (with_reducible refine (sIn_no m 0 6 _ h2.out).mono ?_); rintro e w' ⟨rfl, rfl⟩))
    go_ret2
    exact ⟨rfl, rfl⟩
  · have h2 : Hid (k < 0 ∨ 6 < k) := Lib.hid (by omega)
    clear h
    go_enter Try.func9, Try.ntmps9
    go_wp2_with (first | (go_at_call 32; (with_reducible refine (sIn_no k 0 6 _ h2.out).mono ?_); rintro e w' ⟨rfl, rfl⟩))
    go_ret2
    exact ⟨rfl, rfl⟩
set_option maxRecDepth 100000 in
set_option maxHeartbeats 2000000 in
theorem sSubst_short (k m : Int) (A C : Option Addr) (c d : Nat) (x : List Int) (imgs : List (List Int)) (w : World) (hA : RdI w A x) (hx : x.length ≤ maxLen) (hi : imgs.length ≤ 1000000000) (h : (0 ≤ k ∧ k ≤ 6) ∧ 0 ≤ m ∧ m ≤ 6) (hn : ¬ (Num.isWB k x = true ∧ (imgs.length : Int) = k)) :
    Calls Try.prog 9 #[.int .i64 k, .slice A x.length c, .int .i64 m, .slice C imgs.length d] w fun e w' => e = .returned (.tuple #[.slice none 0 0, .int .i64 1]) ∧ w = w' := by
  obtain ⟨h1, h2⟩ := h
  have hw := sWordB_any k A c x w hA hx h1
  cases hb : Num.isWB k x with
  | false =>
    rw [hb] at hw
    have HW := Lib.hid hw
    clear hw hn hb hA hx hi
    go_enter Try.func9, Try.ntmps9
    go_wp2_with (first | (go_at_call 32; (with_reducible refine (sIn_yes k 0 6 _ h1.1 h1.2).mono ?_); rintro e w' ⟨rfl, rfl⟩) | (go_at_call 32; (with_reducible refine (sIn_yes m 0 6 _ h2.1 h2.2).mono ?_); rintro e w' ⟨rfl, rfl⟩) | (go_at_call 33; refine HW.out.mono ?_; rintro e w' ⟨rfl, rfl⟩))
    go_ret2
    exact ⟨rfl, rfl⟩
  | true =>
    rw [hb] at hw
    have HW := Lib.hid hw
    have T1 : ((imgs.length : Int) != k) = true := by
      have : ¬ (imgs.length : Int) = k := fun e => hn ⟨hb, e⟩
      simpa using this
    clear hw hn hb hA hx hi
    go_enter Try.func9, Try.ntmps9
    go_wp2_with (first | (go_at_call 32; (with_reducible refine (sIn_yes k 0 6 _ h1.1 h1.2).mono ?_); rintro e w' ⟨rfl, rfl⟩) | (go_at_call 32; (with_reducible refine (sIn_yes m 0 6 _ h2.1 h2.2).mono ?_); rintro e w' ⟨rfl, rfl⟩) | (go_at_call 33; refine HW.out.mono ?_; rintro e w' ⟨rfl, rfl⟩))
    go_ret2
    exact ⟨rfl, rfl⟩
end Go.Proofs.Ytpplojbcjgiabaa
