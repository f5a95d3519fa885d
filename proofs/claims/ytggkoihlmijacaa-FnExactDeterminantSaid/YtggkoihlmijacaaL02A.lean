/- Contracts of IsMatrix, of the program and of the model. -/
import Derived.Test.YtggkoihlmijacaaKA
import Derived.Test.YtggkoihlmijacaaKB
namespace Go.Proofs.Ytggkoihlmijacaa
open Go.RowKit
set_option linter.unusedVariables false
set_option linter.unusedSimpArgs false

theorem ret_b {a b : Bool} (h : a = b) : Ending.returned (.bool a) = .returned (.bool b) := by rw [h]

/-- A call that leaves its world, in a region behind draws. -/
theorem quiet_more {P : Program} {f : FuncId} {args : Array Value} {w : World} {a n : Nat} {v : Value} (h : ∀ W : World, W = w.drewN (a + n) → Calls P f args W fun e w' => e = .returned v ∧ W = w') :
    Calls P f args (w.drewN (a + n)) fun e w'' => e = .returned v ∧ ∃ m, w'' = w.drewN (a + m) :=
  (h _ rfl).mono fun _ _ ⟨he, hm⟩ => ⟨he, n, hm.symm⟩
theorem isDim_any (n : Int) (w : World) :
    Calls Try.prog 103 #[.int .i64 n] w fun e w' => e = .returned (.bool (decide (0 ≤ n ∧ n ≤ 8))) ∧ w = w' := by
  by_cases h1 : 0 ≤ n
  · by_cases h2 : n ≤ 8
    · have e : decide (0 ≤ n ∧ n ≤ 8) = true := by simp [h1, h2]
      rw [e]; clear e
      go_enter Try.func103, Try.ntmps103; go_wp2; go_ret; exact ⟨rfl, rfl⟩
    · have e : decide (0 ≤ n ∧ n ≤ 8) = false := by simp [h1, h2]
      rw [e]; clear e
      go_enter Try.func103, Try.ntmps103; go_wp2; go_ret; exact ⟨rfl, rfl⟩
  · have e : decide (0 ≤ n ∧ n ≤ 8) = false := by simp [h1]
    rw [e]; clear e
    go_enter Try.func103, Try.ntmps103; go_wp2; go_ret; exact ⟨rfl, rfl⟩
theorem isDim_yes (n : Int) (w : World) (h : 0 ≤ n) (h' : n ≤ 8) :
    Calls Try.prog 103 #[.int .i64 n] w fun e w' => e = .returned (.bool true) ∧ w = w' := by
  have := isDim_any n w; rwa [show decide (0 ≤ n ∧ n ≤ 8) = true by simp [h, h']] at this
theorem isDim_no (n : Int) (w : World) (h : ¬ (0 ≤ n ∧ n ≤ 8)) :
    Calls Try.prog 103 #[.int .i64 n] w fun e w' => e = .returned (.bool false) ∧ w = w' := by
  have := isDim_any n w; rwa [show decide (0 ≤ n ∧ n ≤ 8) = false by simpa using h] at this

set_option maxHeartbeats 400000 in
theorem isVec_any (p n : Int) (A : Option Addr) (c : Nat) (xs : List Int) (w : World) (h : RdI w A xs) (hl : xs.length ≤ maxLen) :
    Calls Try.prog 56 #[.int .i64 p, .int .i64 n, .slice A xs.length c] w fun e w' => e = .returned (.bool (Num.vecB p n xs)) ∧ w = w' := by
  unfold maxLen at hl
  by_cases hn : (xs.length : Int) = n
  · have T1 : ((xs.length : Int) != n) = false := by simp [hn]
    have H := Lib.hid hn; clear hn
    go_enter Try.func56, Try.ntmps56
    go_wp2_with (fail)
    go_loop [15] (fun s => ∃ k : Nat, k ≤ xs.length ∧ s = .int .i64 k ∧ Hid (∀ j, j < k → 0 ≤ xs.getD j 0 ∧ xs.getD j 0 < p)) (fun s => xs.length - (intOf s).toNat)
    case atStart => exact ⟨0, by omega, rfl, Lib.hid (fun j hj => by omega)⟩
    case round =>
      obtain ⟨k, hk, rfl, hp⟩ := hrel
      by_cases hlt : k < xs.length
      · obtain ⟨g, o, rfl, hg, hc⟩ := h k hlt
        have i0 : (0 : Int) ≤ (k : Int) := by omega
        have i1 : (k : Int) < (xs.length : Int) := by omega
        by_cases hx : 0 ≤ xs.getD k 0 ∧ xs.getD k 0 < p
        · have HP : Hid (∀ j, j < k + 1 → 0 ≤ xs.getD j 0 ∧ xs.getD j 0 < p) := Lib.hid fun j hj => by
            by_cases e : j = k
            · rw [e]; exact hx
            · exact hp.out j (by omega)
          obtain ⟨hx1, hx2⟩ := hx
          generalize xs.getD k 0 = x at *
          go_wp2_with (fail)
          exact ⟨⟨k + 1, by omega, by go_num, HP⟩, by simp [intOf]; omega⟩
        · have HB : Hid (Num.vecB p n xs = false) := Lib.hid (Num.vecB_bad hlt hx)
          generalize xs.getD k 0 = x at *
          by_cases hx1 : 0 ≤ x
          · have hx2 : ¬ x < p := fun h2 => hx ⟨hx1, h2⟩
            clear hx
            go_wp2_with (fail)
            go_ret
            exact ⟨ret_b HB.out.symm, rfl⟩
          · clear hx
            go_wp2_with (fail)
            go_ret
            exact ⟨ret_b HB.out.symm, rfl⟩
      · have hge : ¬ ((k : Int) < (xs.length : Int)) := by omega
        obtain rfl : k = xs.length := by omega
        have HB : Hid (Num.vecB p n xs = true) := Lib.hid (Num.vecB_ok H.out hp.out)
        go_wp2_with (fail)
        go_ret
        exact ⟨ret_b HB.out.symm, rfl⟩
  · have HB : Hid (Num.vecB p n xs = false) := Lib.hid (Num.vecB_len hn)
    have T1 : ((xs.length : Int) != n) = true := by simpa using hn
    clear hn
    go_enter Try.func56, Try.ntmps56
    go_wp2_with (fail)
    go_ret
    exact ⟨ret_b HB.out.symm, rfl⟩

/-- The rows of a matrix are vectors, so far. -/
def RowsOk (P C : Int) (xss : List (List Int)) (k : Nat) : Prop := ∀ j, j < k → Num.vecB P C (xss.getD j []) = true
theorem RowsOk.step {P C : Int} {xss : List (List Int)} {k : Nat} (h : RowsOk P C xss k) (h' : Num.vecB P C (xss.getD k []) = true) : RowsOk P C xss (k + 1) := fun j hj => by
  by_cases e : j = k
  · rw [e]; exact h'
  · exact h j (by omega)
set_option maxHeartbeats 1000000 in
theorem isMat_any (P C : Int) (A : Option Addr) (c : Nat) (xss : List (List Int)) (w : World) (h : RdII w A xss) (hm : ∀ j, j < xss.length → (xss.getD j []).length ≤ maxLen) (hx : xss.length ≤ maxLen) :
    Calls Try.prog 47 #[.agg #[.int .i64 P, .int .i64 C, .slice A xss.length c]] w fun e w' => e = .returned (.bool (Num.matB P C xss)) ∧ Below w.heap.size w w' := by
  have hx' := hx
  unfold maxLen at hx'
  rcases Num.matB_cases P C xss with h1 | ⟨h1, h2⟩ | ⟨h1, h2, h3, h4⟩ | ⟨h1, h2, h3, h4⟩
  · have HB : Hid (Num.matB P C xss = false) := Lib.hid (Num.matB_no1 h1)
    have H1 := Lib.hid h1; clear h1
    go_enter Try.func47, Try.ntmps47
    go_wp2_with (go_at_call 102; refine (gp_no _ _ H1.out).mono ?_; rintro e w' ⟨rfl, rfl⟩)
    go_ret
    exact ⟨ret_b HB.out.symm, by go_grown⟩
  · have HB : Hid (Num.matB P C xss = false) := Lib.hid (Num.matB_no2 h2)
    have H1 := Lib.hid h1; clear h1
    have H2 := Lib.hid h2; clear h2
    go_enter Try.func47, Try.ntmps47
    go_wp2_with (first | (go_at_call 102; refine (gp_yes _ _ H1.out).mono ?_; rintro e w' ⟨rfl, rfl⟩) | (go_at_call 103; refine (isDim_no _ _ H2.out).mono ?_; rintro e w' ⟨rfl, rfl⟩))
    go_ret
    exact ⟨ret_b HB.out.symm, by go_grown⟩
  · have HB : Hid (Num.matB P C xss = false) := Lib.hid (Num.matB_no3 h4)
    have H1 := Lib.hid h1; clear h1
    go_enter Try.func47, Try.ntmps47
    go_wp2_with (first | (go_at_call 102; refine (gp_yes _ _ H1.out).mono ?_; rintro e w' ⟨rfl, rfl⟩) | (go_at_call 103; refine (isDim_yes _ _ h2 h3).mono ?_; rintro e w' ⟨rfl, rfl⟩))
    go_ret
    exact ⟨ret_b HB.out.symm, by go_grown⟩
  · have HR : Hid (RowsOk P C xss xss.length → Num.matB P C xss = true) := Lib.hid fun hr => Num.matB_ok h1 h2 h3 h4 hr
    have H1 := Lib.hid h1; clear h1
    have b0 : Below w.heap.size w (w.alloc (.cells #[.int .i64 P, .int .i64 C, .slice A xss.length c] 27)) := by go_grown
    have hA := h.below' b0
    have bel : Below w.heap.size w (w.alloc (.cells #[.int .i64 P, .int .i64 C, .slice A xss.length c] 27)) := b0
    clear h b0
    go_enter Try.func47, Try.ntmps47
    go_wp2_with (first | (go_at_call 102; refine (gp_yes _ _ H1.out).mono ?_; rintro e w' ⟨rfl, rfl⟩) | (go_at_call 103; refine (isDim_yes _ _ h2 h3).mono ?_; rintro e w' ⟨rfl, rfl⟩))
    go_loop [24] (fun s => ∃ k : Nat, k ≤ xss.length ∧ s = .int .i64 k ∧ RowsOk P C xss k) (fun s => xss.length - (intOf s).toNat)
    case atStart => exact ⟨0, by omega, rfl, fun j hj => by omega⟩
    case round =>
      obtain ⟨k, hk, rfl, hp⟩ := hrel
      by_cases hlt : k < xss.length
      · obtain ⟨g, o, B, cc, rfl, hc, hr⟩ := hA.row hlt
        have i0 : (0 : Int) ≤ (k : Int) := by omega
        have i1 : (k : Int) < (xss.length : Int) := by omega
        have hlen := hm k hlt
        have HP := Lib.hid hp
        clear hp
        have HV : Hid (∀ wx, RdI wx B (xss.getD k []) → Calls Try.prog 56 #[.int .i64 P, .int .i64 C, .slice B (xss.getD k []).length cc] wx fun e w' => e = .returned (.bool (Num.vecB P C (xss.getD k []))) ∧ wx = w') := Lib.hid fun wx h => isVec_any P C B cc _ wx h hlen
        have HRD := Lib.hid hr
        cases hv : Num.vecB P C (xss.getD k []) with
        | false =>
          have HB : Hid (Num.matB P C xss = false) := Lib.hid (Num.matB_bad hlt hv)
          rw [hv] at HV
          clear hv hm hA hr
          generalize xss.getD k [] = xs at *
          go_wp2_with (fail)
          refine (HV.out _ HRD.out).mono ?_; rintro e w' ⟨rfl, rfl⟩
          go_wp2_with (fail)
          go_ret
          exact ⟨ret_b HB.out.symm, bel⟩
        | true =>
          have HS := Lib.hid (HP.out.step hv)
          rw [hv] at HV
          clear hv hm hA hr
          generalize xss.getD k [] = xs at *
          go_wp2_with (fail)
          refine (HV.out _ HRD.out).mono ?_; rintro e w' ⟨rfl, rfl⟩
          go_wp2_with (fail)
          exact ⟨⟨k + 1, by omega, by go_num, HS.out⟩, by simp [intOf]; omega⟩
      · have hge : ¬ ((k : Int) < (xss.length : Int)) := by omega
        obtain rfl : k = xss.length := by omega
        have HB : Hid (Num.matB P C xss = true) := Lib.hid (HR.out hp)
        go_wp2_with (fail)
        go_ret
        exact ⟨ret_b HB.out.symm, bel⟩

/-! ### The model -/
set_option maxHeartbeats 400000 in
theorem sVec_any (p n : Int) (A : Option Addr) (c : Nat) (xs : List Int) (w : World) (h : RdI w A xs) (hl : xs.length ≤ maxLen) (hp1 : 2 ≤ p) (hp2 : p ≤ 7) :
    Calls Try.prog 53 #[.int .i64 p, .int .i64 n, .slice A xs.length c] w fun e w' => e = .returned (.bool (Num.vecB p n xs)) ∧ w = w' := by
  unfold maxLen at hl
  by_cases hn : (xs.length : Int) = n
  · have T1 : ((xs.length : Int) != n) = false := by simp [hn]
    have H := Lib.hid hn; clear hn
    go_enter Try.func53, Try.ntmps53
    go_wp2_with (fail)
    go_loop [7] (fun s => ∃ k : Nat, k ≤ xs.length ∧ s = .int .i64 k ∧ Hid (∀ j, j < k → 0 ≤ xs.getD j 0 ∧ xs.getD j 0 < p)) (fun s => xs.length - (intOf s).toNat)
    case atStart => exact ⟨0, by omega, rfl, Lib.hid (fun j hj => by omega)⟩
    case round =>
      obtain ⟨k, hk, rfl, hp⟩ := hrel
      by_cases hlt : k < xs.length
      · obtain ⟨g, o, rfl, hg, hc⟩ := h k hlt
        have i0 : (0 : Int) ≤ (k : Int) := by omega
        have i1 : (k : Int) < (xs.length : Int) := by omega
        by_cases hx : 0 ≤ xs.getD k 0 ∧ xs.getD k 0 < p
        · have HP : Hid (∀ j, j < k + 1 → 0 ≤ xs.getD j 0 ∧ xs.getD j 0 < p) := Lib.hid fun j hj => by
            by_cases e : j = k
            · rw [e]; exact hx
            · exact hp.out j (by omega)
          obtain ⟨hx1, hx2⟩ := hx
          generalize xs.getD k 0 = x at *
          go_wp2_with (go_at_call 97; refine (sIn_yes _ _ _ _ hx1 (by omega)).mono ?_; rintro e w' ⟨rfl, rfl⟩)
          exact ⟨⟨k + 1, by omega, by go_num, HP⟩, by simp [intOf]; omega⟩
        · have HB : Hid (Num.vecB p n xs = false) := Lib.hid (Num.vecB_bad hlt hx)
          generalize xs.getD k 0 = x at *
          have hx' : x < 0 ∨ p - 1 < x := by omega
          have HX := Lib.hid hx'
          clear hx hx'
          go_wp2_with (go_at_call 97; refine (sIn_no _ _ _ _ HX.out).mono ?_; rintro e w' ⟨rfl, rfl⟩)
          go_ret
          exact ⟨ret_b HB.out.symm, rfl⟩
      · have hge : ¬ ((k : Int) < (xs.length : Int)) := by omega
        obtain rfl : k = xs.length := by omega
        have HB : Hid (Num.vecB p n xs = true) := Lib.hid (Num.vecB_ok H.out hp.out)
        go_wp2_with (fail)
        go_ret
        exact ⟨ret_b HB.out.symm, rfl⟩
  · have HB : Hid (Num.vecB p n xs = false) := Lib.hid (Num.vecB_len hn)
    have T1 : ((xs.length : Int) != n) = true := by simpa using hn
    clear hn
    go_enter Try.func53, Try.ntmps53
    go_wp2_with (fail)
    go_ret
    exact ⟨ret_b HB.out.symm, rfl⟩

set_option maxHeartbeats 1000000 in
theorem sIsMat_any (P C : Int) (A : Option Addr) (c : Nat) (xss : List (List Int)) (w : World) (h : RdII w A xss) (hm : ∀ j, j < xss.length → (xss.getD j []).length ≤ maxLen) (hx : xss.length ≤ maxLen) :
    Calls Try.prog 43 #[.agg #[.int .i64 P, .int .i64 C, .slice A xss.length c]] w fun e w' => e = .returned (.bool (Num.matB P C xss)) ∧ Below w.heap.size w w' := by
  have hx' := hx
  unfold maxLen at hx'
  rcases Num.matB_cases P C xss with h1 | ⟨h1, h2⟩ | ⟨h1, h2, h3, h4⟩ | ⟨h1, h2, h3, h4⟩
  · have HB : Hid (Num.matB P C xss = false) := Lib.hid (Num.matB_no1 h1)
    have H1 := Lib.hid h1; clear h1
    go_enter Try.func43, Try.ntmps43
    go_wp2_with (go_at_call 96; refine (sPrime_no _ _ H1.out).mono ?_; rintro e w' ⟨rfl, rfl⟩)
    go_ret
    exact ⟨ret_b HB.out.symm, by go_grown⟩
  · have HB : Hid (Num.matB P C xss = false) := Lib.hid (Num.matB_no2 h2)
    have H1 := Lib.hid h1; clear h1
    have H2 : Hid (C < 0 ∨ 8 < C) := Lib.hid (by omega); clear h2
    go_enter Try.func43, Try.ntmps43
    go_wp2_with (first | (go_at_call 96; refine (sPrime_yes _ _ H1.out).mono ?_; rintro e w' ⟨rfl, rfl⟩) | (go_at_call 97; refine (sIn_no _ _ _ _ H2.out).mono ?_; rintro e w' ⟨rfl, rfl⟩))
    go_ret
    exact ⟨ret_b HB.out.symm, by go_grown⟩
  · have HB : Hid (Num.matB P C xss = false) := Lib.hid (Num.matB_no3 h4)
    have H1 := Lib.hid h1; clear h1
    go_enter Try.func43, Try.ntmps43
    go_wp2_with (first | (go_at_call 96; refine (sPrime_yes _ _ H1.out).mono ?_; rintro e w' ⟨rfl, rfl⟩) | (go_at_call 97; refine (sIn_yes _ _ _ _ h2 h3).mono ?_; rintro e w' ⟨rfl, rfl⟩))
    go_ret
    exact ⟨ret_b HB.out.symm, by go_grown⟩
  · have HR : Hid (RowsOk P C xss xss.length → Num.matB P C xss = true) := Lib.hid fun hr => Num.matB_ok h1 h2 h3 h4 hr
    obtain ⟨hp1, hp2⟩ := Num.gp_le h1
    have H1 := Lib.hid h1; clear h1
    have b0 : Below w.heap.size w (w.alloc (.cells #[.int .i64 P, .int .i64 C, .slice A xss.length c] 27)) := by go_grown
    have hA := h.below' b0
    have bel : Below w.heap.size w (w.alloc (.cells #[.int .i64 P, .int .i64 C, .slice A xss.length c] 27)) := b0
    clear h b0
    go_enter Try.func43, Try.ntmps43
    go_wp2_with (first | (go_at_call 96; refine (sPrime_yes _ _ H1.out).mono ?_; rintro e w' ⟨rfl, rfl⟩) | (go_at_call 97; refine (sIn_yes _ _ _ _ h2 h3).mono ?_; rintro e w' ⟨rfl, rfl⟩))
    go_loopw [3] (fun s wr => ∃ k n : Nat, k ≤ xss.length ∧ s = .int .i64 k ∧ RowsOk P C xss k ∧ wr = (w.alloc (.cells #[.int .i64 P, .int .i64 C, .slice A xss.length c] 27)).drewN n) (fun s _ => xss.length - (intOf s).toNat)
    case atStart => exact ⟨0, 0, by omega, rfl, (fun j hj => by omega), rfl⟩
    case round =>
      obtain ⟨k, n, hk, rfl, hp, rfl⟩ := hrel
      by_cases hlt : k < xss.length
      · obtain ⟨g, o, B, cc, rfl, hc, hr⟩ := hA.row hlt
        have i0 : (0 : Int) ≤ (k : Int) := by omega
        have i1 : (k : Int) < (xss.length : Int) := by omega
        have hlen := hm k hlt
        have HP := Lib.hid hp
        clear hp
        have HRD := Lib.hid hr
        have HV : Hid (∀ wx, RdI wx B (xss.getD k []) → Calls Try.prog 53 #[.int .i64 P, .int .i64 C, .slice B (xss.getD k []).length cc] wx fun e w' => e = .returned (.bool (Num.vecB P C (xss.getD k []))) ∧ wx = w') := Lib.hid fun wx h => sVec_any P C B cc _ wx h hlen hp1 hp2
        cases hv : Num.vecB P C (xss.getD k []) with
        | false =>
          have HB : Hid (Num.matB P C xss = false) := Lib.hid (Num.matB_bad hlt hv)
          rw [hv] at HV
          clear hv hm hA hr
          generalize xss.getD k [] = xs at *
          go_wp2_with (fail)
          go_quiet ((go_at_call 53; exact quiet_more fun W hW => HV.out _ (hW ▸ HRD.out)))
          go_wp2_with (fail)
          go_ret
          exact ⟨ret_b HB.out.symm, by rw [World.drewN_drewN]; exact below_drewN bel _⟩
        | true =>
          have HS := Lib.hid (HP.out.step hv)
          rw [hv] at HV
          clear hv hm hA hr
          generalize xss.getD k [] = xs at *
          go_wp2_with (fail)
          go_quiet ((go_at_call 53; exact quiet_more fun W hW => HV.out _ (hW ▸ HRD.out)))
          go_wp2_with (fail)
          exact ⟨⟨k + 1, _, by omega, by go_num, HS.out, rfl⟩, by simp [intOf]; omega⟩
      · have hge : ¬ ((k : Int) < (xss.length : Int)) := by omega
        obtain rfl : k = xss.length := by omega
        have HB : Hid (Num.matB P C xss = true) := Lib.hid (HR.out hp)
        go_wp2_with (fail)
        go_ret
        exact ⟨ret_b HB.out.symm, below_drewN bel _⟩
end Go.Proofs.Ytggkoihlmijacaa
