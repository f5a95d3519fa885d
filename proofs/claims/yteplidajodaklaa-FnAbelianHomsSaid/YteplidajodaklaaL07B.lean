/- Products with a limit, the greatest finite factor, the common divisor of the model. -/
import Derived.Test.YteplidajodaklaaL07A
import Derived.Test.YteplidajodaklaaKB
namespace Go.Proofs.Yteplidajodaklaa
open Go.RowKit
set_option linter.unusedVariables false
set_option linter.unusedSimpArgs false

/-- The state of a product with a limit. -/
def Num.LimInv (xs : List Int) (n : Int) (k : Nat) : Prop := 1 ≤ n ∧ n ≤ 1000000000000000 ∧ Num.prodLim 1 xs = Num.prodLim n (xs.drop k)
theorem Num.limInv_start (xs : List Int) : Num.LimInv xs 1 0 := ⟨by omega, by omega, by simp⟩
theorem Num.limInv_over {xs : List Int} {n : Int} {k : Nat} (h : Num.LimInv xs n k) (hk : k < xs.length) (hc : 1000000000000000 / n < xs.getD k 0) : Num.cnt xs = 0 ∧ Num.cntC xs = 3 ∧ Num.prodLim 1 xs = none := by
  have e : Num.prodLim 1 xs = none := by rw [h.2.2, Num.prodLim_drop hk, if_pos hc]
  unfold Num.cnt Num.cntC
  rw [e]
  exact ⟨rfl, rfl, rfl⟩
theorem Num.limInv_step {xs : List Int} {n : Int} {k : Nat} (h : Num.LimInv xs n k) (hk : k < xs.length) (hx : 1 ≤ xs.getD k 0) (hc : ¬ 1000000000000000 / n < xs.getD k 0) : Num.LimInv xs (n * xs.getD k 0) (k + 1) := by
  have hs := Num.prodLim_step h.1 hx hc
  exact ⟨hs.1, hs.2, by rw [h.2.2, Num.prodLim_drop hk, if_neg hc]⟩
theorem Num.limInv_end {xs : List Int} {n : Int} (h : Num.LimInv xs n xs.length) : Num.cnt xs = n ∧ Num.cntC xs = 0 ∧ Num.prodLim 1 xs = some n := by
  have e : Num.prodLim 1 xs = some n := by rw [h.2.2, List.drop_length]; rfl
  unfold Num.cnt Num.cntC
  rw [e]
  exact ⟨rfl, rfl, rfl⟩

set_option maxHeartbeats 400000 in
theorem countProd_any (A : Option Addr) (c : Nat) (xs : List Int) (w : World) (h : RdI w A xs) (hl : xs.length ≤ maxLen) (h1 : ∀ j, j < xs.length → 1 ≤ xs.getD j 0) :
    Calls Try.prog 25 #[.slice A xs.length c] w fun e w' => e = .returned (.tuple #[.int .i64 (Num.cnt xs), .int .i64 (Num.cntC xs)]) ∧ w = w' := by
  unfold maxLen at hl
  go_enter Try.func25, Try.ntmps25
  go_wp2_with (fail)
  go_loop [4, 9] (fun s0 s => ∃ (n : Int) (k : Nat), k ≤ xs.length ∧ s0 = .int .i64 n ∧ s = .int .i64 k ∧ Num.LimInv xs n k) (fun _ s => xs.length - (intOf s).toNat)
  case atStart => exact ⟨1, 0, by omega, rfl, rfl, Num.limInv_start xs⟩
  case round =>
    obtain ⟨n, k, hk, rfl, rfl, hp⟩ := hrel
    have n1 := hp.1
    have n2 := hp.2.1
    by_cases hlt : k < xs.length
    · obtain ⟨g, o, rfl, hg, hc⟩ := h k hlt
      have i0 : (0 : Int) ≤ (k : Int) := by omega
      have i1 : (k : Int) < (xs.length : Int) := by omega
      have hx := h1 k hlt
      have nz : ¬ n = 0 := by omega
      have q0 : 0 ≤ 1000000000000000 / n := Int.ediv_nonneg (by omega) (by omega)
      have q1 : 1000000000000000 / n ≤ 1000000000000000 := Int.ediv_le_self _ (by omega)
      by_cases hov : 1000000000000000 / n < xs.getD k 0
      · obtain ⟨r1, r2, -⟩ := Num.limInv_over hp hlt hov
        have HB := Lib.hid r1
        have HB2 := Lib.hid r2
        clear hp r1 r2 h1
        generalize xs.getD k 0 = x at *
        go_wp2_with (fail)
        refine bodyPost_ret (v := .tuple #[.int .i64 0, .int .i64 3]) (by simp [results, Try.results25, go_sem]) rfl ?_
        rw [HB.out, HB2.out]
        exact ⟨rfl, rfl⟩
      · have hs := Num.limInv_step hp hlt hx hov
        have b1 := hs.1
        have b2 := hs.2.1
        have HP := Lib.hid hs
        clear hp hs h1
        generalize xs.getD k 0 = x at *
        go_wp2_with (fail)
        exact ⟨⟨n * x, k + 1, by omega, by go_num, by go_num, HP.out⟩, by simp [intOf]; omega⟩
    · have hge : ¬ ((k : Int) < (xs.length : Int)) := by omega
      obtain rfl : k = xs.length := by omega
      obtain ⟨r1, r2, -⟩ := Num.limInv_end hp
      have HB := Lib.hid r1
      have HB2 := Lib.hid r2
      clear r1 r2 hp h1
      go_wp2_with (fail)
      refine bodyPost_ret (v := .tuple #[.int .i64 n, .int .i64 0]) (by simp [results, Try.results25, go_sem]) rfl ?_
      rw [HB.out, HB2.out]
      exact ⟨rfl, rfl⟩

set_option maxHeartbeats 400000 in
theorem sProduct_any (A : Option Addr) (c : Nat) (xs : List Int) (w : World) (h : RdI w A xs) (hl : xs.length ≤ maxLen) (h1 : ∀ j, j < xs.length → 1 ≤ xs.getD j 0) :
    Calls Try.prog 43 #[.slice A xs.length c] w fun e w' => e = .returned (.tuple #[.int .i64 (Num.cnt xs), .bool (Num.prodLim 1 xs).isSome]) ∧ Below w.heap.size w w' := by
  unfold maxLen at hl
  go_enter Try.func43, Try.ntmps43
  go_wp2_with (fail)
  go_loopw [4, 5] (fun s0 s wr => ∃ (n : Int) (k d : Nat), k ≤ xs.length ∧ s0 = .int .i64 n ∧ s = .int .i64 k ∧ Num.LimInv xs n k ∧ wr = w.drewN d) (fun _ s _ => xs.length - (intOf s).toNat)
  case atStart => exact ⟨1, 0, 0, by omega, rfl, rfl, Num.limInv_start xs, rfl⟩
  case round =>
    obtain ⟨n, k, d, hk, rfl, rfl, hp, rfl⟩ := hrel
    have n1 := hp.1
    have n2 := hp.2.1
    by_cases hlt : k < xs.length
    · obtain ⟨g, o, rfl, hg, hc⟩ := h k hlt
      have i0 : (0 : Int) ≤ (k : Int) := by omega
      have i1 : (k : Int) < (xs.length : Int) := by omega
      have hx := h1 k hlt
      have nz : ¬ n = 0 := by omega
      have q0 : 0 ≤ 1000000000000000 / n := Int.ediv_nonneg (by omega) (by omega)
      have q1 : 1000000000000000 / n ≤ 1000000000000000 := Int.ediv_le_self _ (by omega)
      by_cases hov : 1000000000000000 / n < xs.getD k 0
      · obtain ⟨r1, -, r2⟩ := Num.limInv_over hp hlt hov
        have HB := Lib.hid r1
        have HB2 := Lib.hid r2
        clear hp r1 r2 h1
        generalize xs.getD k 0 = x at *
        go_wp2_with (fail)
        go_quiet (fail)
        go_wp2_with (fail)
        refine bodyPost_ret (v := .tuple #[.int .i64 0, .bool false]) (by simp [results, Try.results43, go_sem]) rfl ?_
        rw [HB.out, HB2.out]
        exact ⟨rfl, by rw [World.drewN_drewN]; exact below_drewN (Below.refl _ _) _⟩
      · have hs := Num.limInv_step hp hlt hx hov
        have b1 := hs.1
        have b2 := hs.2.1
        have HP := Lib.hid hs
        clear hp hs h1
        generalize xs.getD k 0 = x at *
        go_wp2_with (fail)
        go_quiet (fail)
        go_wp2_with (fail)
        exact ⟨⟨n * x, k + 1, _, by omega, by go_num, by go_num, HP.out, rfl⟩, by simp [intOf]; omega⟩
    · have hge : ¬ ((k : Int) < (xs.length : Int)) := by omega
      obtain rfl : k = xs.length := by omega
      obtain ⟨r1, -, r2⟩ := Num.limInv_end hp
      have HB := Lib.hid r1
      have HB2 := Lib.hid r2
      clear r1 r2 hp h1
      go_wp2_with (fail)
      refine bodyPost_ret (v := .tuple #[.int .i64 n, .bool true]) (by simp [results, Try.results43, go_sem]) rfl ?_
      rw [HB.out, HB2.out]
      exact ⟨rfl, below_drewN (Below.refl _ _) _⟩
theorem sCount_any (A : Option Addr) (c : Nat) (xs : List Int) (w : World) (h : RdI w A xs) (hl : xs.length ≤ maxLen) (h1 : ∀ j, j < xs.length → 1 ≤ xs.getD j 0) :
    Calls Try.prog 28 #[.slice A xs.length c] w (RetI (Num.cnt xs) (Num.cntC xs) w) := by
  have HP := Lib.hid (sProduct_any A c xs w h hl h1)
  clear h hl h1
  cases hv : Num.prodLim 1 xs with
  | none =>
    have e1 : Num.cnt xs = 0 := by unfold Num.cnt; rw [hv]; rfl
    have e2 : Num.cntC xs = 3 := by unfold Num.cntC; rw [hv]; rfl
    rw [hv, e1] at HP
    rw [e1, e2]
    clear e1 e2 hv
    go_enter Try.func28, Try.ntmps28
    go_wp2_with (fail)
    refine HP.out.mono ?_; rintro e w1 ⟨rfl, hb⟩
    clear HP
    go_wp2_with (fail)
    exact bodyPost_ret (v := .tuple #[.int .i64 0, .int .i64 3]) (by simp [results, Try.results28, go_sem]) rfl ⟨rfl, hb⟩
  | some n =>
    have e1 : Num.cnt xs = n := by unfold Num.cnt; rw [hv]; rfl
    have e2 : Num.cntC xs = 0 := by unfold Num.cntC; rw [hv]; rfl
    rw [hv, e1] at HP
    rw [e1, e2]
    clear e1 e2 hv
    go_enter Try.func28, Try.ntmps28
    go_wp2_with (fail)
    refine HP.out.mono ?_; rintro e w1 ⟨rfl, hb⟩
    clear HP
    go_wp2_with (fail)
    exact bodyPost_ret (v := .tuple #[.int .i64 n, .int .i64 0]) (by simp [results, Try.results28, go_sem]) rfl ⟨rfl, hb⟩

/-- The greatest finite factor. -/
def Num.lastF (F : List Int) : Int := if F.length = 0 then 1 else F.getD (F.length - 1) 0
set_option maxHeartbeats 400000 in
theorem sGcd4_any (a b : Int) (w : World) (ha0 : -1099511627776 ≤ a) (ha1 : a ≤ 1099511627776) (hb0 : -1099511627776 ≤ b) (hb1 : b ≤ 1099511627776) :
    Calls Try.prog 27 #[.int .i64 a, .int .i64 b] w fun e w' => e = .returned (.int .i64 (Int.gcd a b)) ∧ Below w.heap.size w w' := by
  go_enter Try.func27, Try.ntmps27
  go_wp2
  go_loopw [0, 1] (fun x y wr => ∃ c d : Int, x = .int .i64 c ∧ y = .int .i64 d ∧ -1099511627776 ≤ c ∧ c ≤ 1099511627776 ∧ -1099511627776 ≤ d ∧ d ≤ 1099511627776 ∧ Int.gcd c d = Int.gcd a b ∧ Below w.heap.size w wr) (fun _ y _ => (intOf y).natAbs)
  case atStart => exact ⟨a, b, rfl, rfl, ha0, ha1, hb0, hb1, rfl, Below.refl _ _⟩
  case round =>
    obtain ⟨c, d, rfl, rfl, hc0, hc1, hd0, hd1, hg, hbel⟩ := hrel
    have HG := Lib.hid hg
    clear hg
    by_cases hd : d = 0
    · subst hd
      by_cases hc : 0 ≤ c
      · have HS : Hid (c = (Int.gcd a b : Int)) := Lib.hid (by rw [← HG.out, Int.gcd_zero_right]; omega)
        have h1 : -c ≤ c := by omega
        go_wp2
        go_ret
        exact ⟨ret_int HS.out, hbel⟩
      · have HS : Hid (-c = (Int.gcd a b : Int)) := Lib.hid (by rw [← HG.out, Int.gcd_zero_right]; omega)
        have h1 : c ≤ -c := by omega
        go_wp2
        go_ret
        exact ⟨ret_int HS.out, hbel⟩
    · have hne : (d != 0) = true := by simpa using hd
      have hn : (c.tmod d).natAbs < d.natAbs := by rw [Int.natAbs_tmod]; exact Nat.mod_lt _ (by omega)
      have HG' : Hid (Int.gcd d (c.tmod d) = Int.gcd a b) := by rw [Num.gcd_tstep]; exact HG.out
      go_wp2
      go_quiet (fail)
      go_wp2
      exact ⟨⟨d, c.tmod d, rfl, rfl, hd0, hd1, by omega, by omega, HG'.out, below_drewN hbel _⟩, hn⟩
end Go.Proofs.Yteplidajodaklaa
