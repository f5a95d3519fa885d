/- Words: letters and words, of the program and of the model. -/
import Derived.Test.YteappjgdcbploaaNumWe
import Derived.Test.YteappjgdcbploaaKB
namespace Go.Proofs.Yteappjgdcbploaa
open Go.RowKit
set_option linter.unusedVariables false
set_option linter.unusedSimpArgs false

/-! ### Of the program -/
theorem genCount_yes (k : Int) (w : World) (h : 0 ≤ k ∧ k ≤ 6) : Calls Try.prog 119 #[.int .i64 k] w fun e w' => e = .returned (.bool true) ∧ w = w' := by
  obtain ⟨h1, h2⟩ := h
  go_enter Try.func119, Try.ntmps119
  go_wp2
  go_ret
  exact ⟨rfl, rfl⟩
theorem genCount_no (k : Int) (w : World) (h : ¬ (0 ≤ k ∧ k ≤ 6)) : Calls Try.prog 119 #[.int .i64 k] w fun e w' => e = .returned (.bool false) ∧ w = w' := by
  by_cases h3 : 0 ≤ k
  · have h2 : decide (k ≤ 6) = false := by simp; omega
    clear h
    go_enter Try.func119, Try.ntmps119
    go_wp2
    go_ret
    exact ⟨rfl, rfl⟩
  · clear h
    go_enter Try.func119, Try.ntmps119
    go_wp2
    go_ret
    exact ⟨rfl, rfl⟩
theorem isLetter_yes (k x : Int) (w : World) (hk : 0 ≤ k ∧ k ≤ 6) (h : x ≠ 0 ∧ -k ≤ x ∧ x ≤ k) : Calls Try.prog 120 #[.int .i64 k, .int .i64 x] w fun e w' => e = .returned (.bool true) ∧ w = w' := by
  obtain ⟨h1, h2, h3⟩ := h
  obtain ⟨k0, k1⟩ := hk
  have hw : IntKind.i64.wrap (-k) = -k := IntWalk.i64_in _ (by omega)
  have T1 : (x != 0) = true := by simpa using h1
  go_enter Try.func120, Try.ntmps120
  go_wp2
  go_ret
  exact ⟨rfl, rfl⟩
theorem isLetter_no (k x : Int) (w : World) (hk : 0 ≤ k ∧ k ≤ 6) (h : ¬ (x ≠ 0 ∧ -k ≤ x ∧ x ≤ k)) : Calls Try.prog 120 #[.int .i64 k, .int .i64 x] w fun e w' => e = .returned (.bool false) ∧ w = w' := by
  obtain ⟨k0, k1⟩ := hk
  have hw : IntKind.i64.wrap (-k) = -k := IntWalk.i64_in _ (by omega)
  by_cases h1 : x = 0
  · subst h1
    clear h
    go_enter Try.func120, Try.ntmps120
    go_wp2
    go_ret
    exact ⟨rfl, rfl⟩
  · have T1 : (x != 0) = true := by simpa using h1
    by_cases h2 : -k ≤ x
    · have h3 : decide (x ≤ k) = false := by simp; omega
      clear h
      go_enter Try.func120, Try.ntmps120
      go_wp2
      go_ret
      exact ⟨rfl, rfl⟩
    · have h3 : decide (-k ≤ x) = false := by simp; omega
      clear h
      go_enter Try.func120, Try.ntmps120
      go_wp2
      go_ret
      exact ⟨rfl, rfl⟩
theorem isWord_in (k : Int) (A : Option Addr) (c : Nat) (xs : List Int) (w : World) (h : RdI w A xs) (hl : xs.length ≤ maxLen) (hk : 0 ≤ k ∧ k ≤ 6) :
    Calls Try.prog 89 #[.int .i64 k, .slice A xs.length c] w fun e w' => e = .returned (.bool (Num.isWB k xs)) ∧ w = w' := by
  unfold maxLen at hl
  by_cases hb : 64 < xs.length
  · have HB : Hid (Num.isWB k xs = false) := Lib.hid (Num.isWB_len hb)
    have T1 : decide ((64 : Int) < (xs.length : Int)) = true := decide_eq_true (by omega)
    have T2 : (64 : Int) < (xs.length : Int) := by omega
    go_enter Try.func89, Try.ntmps89
    go_wp2_with (go_at_call 119; refine (genCount_yes _ _ hk).mono ?_; rintro e w' ⟨rfl, rfl⟩)
    go_ret
    exact ⟨ret_b HB.out.symm, rfl⟩
  · have T1 : decide ((64 : Int) < (xs.length : Int)) = false := decide_eq_false (by omega)
    have T2 : ¬ (64 : Int) < (xs.length : Int) := by omega
    go_enter Try.func89, Try.ntmps89
    go_wp2_with (go_at_call 119; refine (genCount_yes _ _ hk).mono ?_; rintro e w' ⟨rfl, rfl⟩)
    clear T1 T2
    go_loop [17] (fun s => ∃ j : Nat, j ≤ xs.length ∧ s = .int .i64 j ∧ ∀ i, i < j → xs.getD i 0 ≠ 0 ∧ -k ≤ xs.getD i 0 ∧ xs.getD i 0 ≤ k) (fun s => xs.length - (intOf s).toNat)
    case atStart => exact ⟨0, by omega, rfl, fun i hi => by omega⟩
    case round =>
      obtain ⟨j, hj, rfl, hp⟩ := hrel
      by_cases hlt : j < xs.length
      · obtain ⟨g, o, rfl, hg, hc⟩ := h j hlt
        have i0 : (0 : Int) ≤ (j : Int) := by omega
        have i1 : (j : Int) < (xs.length : Int) := by omega
        by_cases hx : xs.getD j 0 ≠ 0 ∧ -k ≤ xs.getD j 0 ∧ xs.getD j 0 ≤ k
        · have HP : Hid (∀ i, i < j + 1 → xs.getD i 0 ≠ 0 ∧ -k ≤ xs.getD i 0 ∧ xs.getD i 0 ≤ k) := Lib.hid fun i hi => by
            rcases Nat.lt_succ_iff_lt_or_eq.mp hi with h1 | rfl
            · exact hp i h1
            · exact hx
          have HX := Lib.hid hx
          clear hp hx
          generalize xs.getD j 0 = x at hc HX
          go_wp2_with (go_at_call 120; refine (isLetter_yes _ _ _ hk HX.out).mono ?_; rintro e w' ⟨rfl, rfl⟩)
          exact ⟨⟨j + 1, by omega, by go_num, HP.out⟩, by simp [intOf]; omega⟩
        · have HB : Hid (Num.isWB k xs = false) := Lib.hid (Num.isWB_bad hlt (by omega))
          have HX := Lib.hid hx
          clear hp hx
          generalize xs.getD j 0 = x at hc HX
          go_wp2_with (go_at_call 120; refine (isLetter_no _ _ _ hk HX.out).mono ?_; rintro e w' ⟨rfl, rfl⟩)
          go_ret
          exact ⟨ret_b HB.out.symm, rfl⟩
      · have hge : ¬ ((j : Int) < (xs.length : Int)) := by omega
        obtain rfl : j = xs.length := by omega
        have HB : Hid (Num.isWB k xs = true) := Lib.hid (Num.isWB_yes (by omega) hp)
        go_wp2_with (fail)
        go_ret
        exact ⟨ret_b HB.out.symm, rfl⟩
theorem isWord_out (k : Int) (A : Option Addr) (c n : Nat) (w : World) (hk : ¬ (0 ≤ k ∧ k ≤ 6)) :
    Calls Try.prog 89 #[.int .i64 k, .slice A n c] w fun e w' => e = .returned (.bool false) ∧ w = w' := by
  go_enter Try.func89, Try.ntmps89
  go_wp2_with (go_at_call 119; refine (genCount_no _ _ hk).mono ?_; rintro e w' ⟨rfl, rfl⟩)
  go_ret
  exact ⟨rfl, rfl⟩
theorem isWord_any (k : Int) (A : Option Addr) (c : Nat) (xs : List Int) (w : World) (h : RdI w A xs) (hl : xs.length ≤ maxLen) :
    Calls Try.prog 89 #[.int .i64 k, .slice A xs.length c] w fun e w' => e = .returned (.bool (Num.isW k xs)) ∧ w = w' := by
  by_cases hk : 0 ≤ k ∧ k ≤ 6
  · have := isWord_in k A c xs w h hl hk
    unfold Num.isW
    rw [decide_eq_true hk, Bool.true_and]
    exact this
  · have := isWord_out k A c xs.length w hk
    unfold Num.isW
    rw [decide_eq_false hk, Bool.false_and]
    exact this

/-! ### Of the model -/
theorem sWordB_any (k : Int) (A : Option Addr) (c : Nat) (xs : List Int) (w : World) (h : RdI w A xs) (hl : xs.length ≤ maxLen) (hk : 0 ≤ k ∧ k ≤ 6) :
    Calls Try.prog 87 #[.int .i64 k, .slice A xs.length c] w fun e w' => e = .returned (.bool (Num.isWB k xs)) ∧ w = w' := by
  unfold maxLen at hl
  have hw : IntKind.i64.wrap (-k) = -k := IntWalk.i64_in _ (by omega)
  by_cases hb : 64 < xs.length
  · have HB : Hid (Num.isWB k xs = false) := Lib.hid (Num.isWB_len hb)
    have T2 : (64 : Int) < (xs.length : Int) := by omega
    go_enter Try.func87, Try.ntmps87
    go_wp2_with (fail)
    go_ret
    exact ⟨ret_b HB.out.symm, rfl⟩
  · have T2 : ¬ (64 : Int) < (xs.length : Int) := by omega
    go_enter Try.func87, Try.ntmps87
    go_wp2_with (fail)
    clear T2
    go_loop [5] (fun s => ∃ j : Nat, j ≤ xs.length ∧ s = .int .i64 j ∧ ∀ i, i < j → xs.getD i 0 ≠ 0 ∧ -k ≤ xs.getD i 0 ∧ xs.getD i 0 ≤ k) (fun s => xs.length - (intOf s).toNat)
    case atStart => exact ⟨0, by omega, rfl, fun i hi => by omega⟩
    case round =>
      obtain ⟨j, hj, rfl, hp⟩ := hrel
      by_cases hlt : j < xs.length
      · obtain ⟨g, o, rfl, hg, hc⟩ := h j hlt
        have i0 : (0 : Int) ≤ (j : Int) := by omega
        have i1 : (j : Int) < (xs.length : Int) := by omega
        by_cases hx : xs.getD j 0 ≠ 0 ∧ -k ≤ xs.getD j 0 ∧ xs.getD j 0 ≤ k
        · have HP : Hid (∀ i, i < j + 1 → xs.getD i 0 ≠ 0 ∧ -k ≤ xs.getD i 0 ∧ xs.getD i 0 ≤ k) := Lib.hid fun i hi => by
            rcases Nat.lt_succ_iff_lt_or_eq.mp hi with h1 | rfl
            · exact hp i h1
            · exact hx
          have HX := Lib.hid hx
          have T1 : (xs.getD j 0 == 0) = false := by simpa using hx.1
          clear hp hx
          generalize xs.getD j 0 = x at hc HX T1
          go_wp2_with (go_at_call 71; refine (sIn_yes _ _ _ _ HX.out.2.1 HX.out.2.2).mono ?_; rintro e w' ⟨rfl, rfl⟩)
          exact ⟨⟨j + 1, by omega, by go_num, HP.out⟩, by simp [intOf]; omega⟩
        · have HB : Hid (Num.isWB k xs = false) := Lib.hid (Num.isWB_bad hlt (by omega))
          have HX := Lib.hid hx
          clear hp hx
          generalize xs.getD j 0 = x at hc HX
          by_cases hz : x = 0
          · have T1 : (x == 0) = true := by simpa using hz
            clear hz
            go_wp2_with (fail)
            go_ret
            exact ⟨ret_b HB.out.symm, rfl⟩
          · have T1 : (x == 0) = false := by simpa using hz
            have HN : Hid (x < -k ∨ k < x) := Lib.hid (by have := HX.out; omega)
            clear hz
            go_wp2_with (go_at_call 71; refine (sIn_no _ _ _ _ HN.out).mono ?_; rintro e w' ⟨rfl, rfl⟩)
            go_ret
            exact ⟨ret_b HB.out.symm, rfl⟩
      · have hge : ¬ ((j : Int) < (xs.length : Int)) := by omega
        obtain rfl : j = xs.length := by omega
        have HB : Hid (Num.isWB k xs = true) := Lib.hid (Num.isWB_yes (by omega) hp)
        go_wp2_with (fail)
        go_ret
        exact ⟨ret_b HB.out.symm, rfl⟩
theorem iIsWord_ok (k : Int) (v : Value) (x : List Int) (w : World) (h : spI.rd w v x) (s : spI.sz x ≤ 1048576) : Calls Try.prog 89 #[.int .i64 k, v] w (RetB (rIsWord k x) w) := by
  obtain ⟨A, c, rfl, hm, hA⟩ := h
  exact (isWord_any k A c x w hA hm).mono fun e w' ⟨h1, h2⟩ => ⟨h1, h2 ▸ Below.refl _ _⟩
end Go.Proofs.Yteappjgdcbploaa
