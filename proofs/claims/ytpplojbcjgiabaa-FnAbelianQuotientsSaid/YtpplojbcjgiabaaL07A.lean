/- Abelian groups: what comes in; chains of divisors; IsAbelian of the program and of the model. -/
import Derived.Test.YtpplojbcjgiabaaNumJ
import Derived.Test.YtpplojbcjgiabaaKB
import Derived.Test.YtpplojbcjgiabaaShAb
namespace Go.Proofs.Ytpplojbcjgiabaa
open Go.RowKit Go.ChangeShapes Go.WideShapes Go.ChangeAt
set_option linter.unusedVariables false
set_option linter.unusedSimpArgs false

theorem rdAb_of {w : World} {K : Int} {A : Option Addr} {c : Nat} {xs : List Int} (h : RdI w A xs ∧ xs.length ≤ maxLen) : spAb.rd w (.agg #[.slice A xs.length c, .int .i64 K]) ⟨xs, K⟩ := ⟨_, rfl, A, c, rfl, h.2, h.1⟩

def Ab.ok (x : Ab) : Bool := Num.abB x.F x.K

set_option maxHeartbeats 400000 in
theorem chain_any (A : Option Addr) (c : Nat) (xs : List Int) (w : World) (h : RdI w A xs) (hl : xs.length ≤ maxLen) :
    Calls Try.prog 65 #[.slice A xs.length c] w fun e w' => e = .returned (.bool (Num.chainB xs)) ∧ w = w' := by
  unfold maxLen at hl
  go_enter Try.func65, Try.ntmps65
  go_wp2_with (fail)
  go_loop [3, 8] (fun s0 s => ∃ k : Nat, k ≤ xs.length ∧ s0 = .int .i64 (Num.prevD xs k) ∧ s = .int .i64 k ∧ Num.Links xs k) (fun _ s => xs.length - (intOf s).toNat)
  case atStart => exact ⟨0, by omega, rfl, rfl, Num.Links.zero xs⟩
  case round =>
    obtain ⟨k, hk, rfl, rfl, hp⟩ := hrel
    have hpv := hp.prev
    by_cases hlt : k < xs.length
    · obtain ⟨g, o, rfl, hg, hc⟩ := h k hlt
      have i0 : (0 : Int) ≤ (k : Int) := by omega
      have i1 : (k : Int) < (xs.length : Int) := by omega
      by_cases hx : Num.Link xs k
      · have HP := Lib.hid (hp.step hx)
        have e1 := Num.prevD_succ xs k
        obtain ⟨hx1, hx2⟩ := hx
        have HE : Hid (xs.getD k 0 = Num.prevD xs (k + 1)) := Lib.hid e1.symm
        clear e1 hp
        have HE2 := HE
        clear HE
        generalize xs.getD k 0 = x at *
        generalize Num.prevD xs k = p at *
        have x0 : 0 ≤ x := by omega
        have T1 : (x % p != 0) = false := by simp [hx2]
        go_wp2_with (fail)
        exact ⟨⟨k + 1, by omega, by rw [HE2.out], by go_num, HP.out⟩, by simp [intOf]; omega⟩
      · have HB : Hid (Num.chainB xs = false) := Lib.hid (Num.chainB_bad hlt hx)
        have hx' : xs.getD k 0 ≤ 0 ∨ 0 < xs.getD k 0 ∧ xs.getD k 0 % Num.prevD xs k ≠ 0 := by
          unfold Num.Link at hx
          omega
        clear hx hp
        generalize xs.getD k 0 = x at *
        generalize Num.prevD xs k = p at *
        rcases hx' with h1 | ⟨h1, h2⟩
        · go_wp2_with (fail)
          go_ret
          exact ⟨ret_b HB.out.symm, rfl⟩
        · have x0 : 0 ≤ x := by omega
          have x1 : ¬ x ≤ 0 := by omega
          have T1 : (x % p != 0) = true := by simpa using h2
          go_wp2_with (fail)
          go_ret
          exact ⟨ret_b HB.out.symm, rfl⟩
    · have hge : ¬ ((k : Int) < (xs.length : Int)) := by omega
      obtain rfl : k = xs.length := by omega
      have HB : Hid (Num.chainB xs = true) := Lib.hid (Num.chainB_ok hp)
      go_wp2_with (fail)
      go_ret
      exact ⟨ret_b HB.out.symm, rfl⟩

set_option maxHeartbeats 1000000 in
theorem isAb_any (v : Value) (x : Ab) (w : World) (h : spAb.rd w v x) :
    Calls Try.prog 46 #[v] w (RetB x.ok w) := by
  obtain ⟨F, K⟩ := x
  obtain ⟨_, rfl, A, c, rfl, hm, hA0⟩ := h
  replace hA0 : RdI w A F := hA0
  have hm' : F.length ≤ maxLen := hm
  unfold maxLen at hm'
  show Calls Try.prog 46 #[.agg #[.slice A F.length c, .int .i64 K]] w fun e w' => e = .returned (.bool (Num.abB F K)) ∧ Below w.heap.size w w'
  have b0 : Below w.heap.size w (w.alloc (.cells #[.slice A F.length c, .int .i64 K] 40)) := by go_grown
  have hA := hA0.below' b0
  have HC := Lib.hid (chain_any A c F _ hA hm)
  have bel := b0
  clear hA0 b0
  go_enter Try.func46, Try.ntmps46
  go_wp2_with (fail)
  go_loop [9] (fun s => ∃ k : Nat, k ≤ F.length ∧ s = .int .i64 k ∧ Num.Rngs F k) (fun s => F.length - (intOf s).toNat)
  case atStart => exact ⟨0, by omega, rfl, Num.Rngs.zero F⟩
  case round =>
    obtain ⟨k, hk, rfl, hp⟩ := hrel
    by_cases hlt : k < F.length
    · obtain ⟨g, o, rfl, hg, hc⟩ := hA k hlt
      have i0 : (0 : Int) ≤ (k : Int) := by omega
      have i1 : (k : Int) < (F.length : Int) := by omega
      by_cases hx : Num.Rng F k
      · have HP := Lib.hid (hp.step hx)
        obtain ⟨hx1, hx2⟩ := hx
        clear hp HC
        generalize F.getD k 0 = x at *
        have x1 : ¬ x < 2 := by omega
        have x2 : ¬ 1000000 < x := by omega
        go_wp2_with (fail)
        exact ⟨⟨k + 1, by omega, by go_num, HP.out⟩, by simp [intOf]; omega⟩
      · have HB : Hid (Num.abB F K = false) := Lib.hid (Num.abB_rng hlt hx)
        have hx' : F.getD k 0 < 2 ∨ ¬ F.getD k 0 < 2 ∧ 1000000 < F.getD k 0 := by
          unfold Num.Rng at hx
          omega
        clear hx hp HC
        generalize F.getD k 0 = x at *
        rcases hx' with h1 | ⟨h1, h2⟩
        · go_wp2_with (fail)
          go_ret
          exact ⟨ret_b HB.out.symm, bel⟩
        · go_wp2_with (fail)
          go_ret
          exact ⟨ret_b HB.out.symm, bel⟩
    · have hge : ¬ ((k : Int) < (F.length : Int)) := by omega
      obtain rfl : k = F.length := by omega
      cases hv : Num.chainB F with
      | false =>
        have HB : Hid (Num.abB F K = false) := Lib.hid (Num.abB_chain hv)
        rw [hv] at HC
        clear hv hp
        go_wp2_with (go_at_call 65; refine HC.out.mono ?_; rintro e w' ⟨rfl, rfl⟩)
        go_ret
        exact ⟨ret_b HB.out.symm, bel⟩
      | true =>
        have HR : Hid (0 ≤ K → K ≤ 10 - (F.length : Int) → Num.abB F K = true) := Lib.hid fun k1 k2 => Num.abB_ok (by omega) k1 k2 hp hv
        have HR2 : Hid (K < 0 ∨ 10 - (F.length : Int) < K → Num.abB F K = false) := Lib.hid fun k1 => Num.abB_rank k1
        rw [hv] at HC
        clear hv hp
        by_cases k1 : 0 ≤ K
        · by_cases k2 : K ≤ 10 - (F.length : Int)
          · have HB := Lib.hid (HR.out k1 k2)
            go_wp2_with (go_at_call 65; refine HC.out.mono ?_; rintro e w' ⟨rfl, rfl⟩)
            go_ret
            exact ⟨ret_b HB.out.symm, bel⟩
          · have HB := Lib.hid (HR2.out (.inr (by omega)))
            have K2 := Lib.hid k2
            go_wp2_with (go_at_call 65; refine HC.out.mono ?_; rintro e w' ⟨rfl, rfl⟩)
            go_ret
            exact ⟨ret_b (by rw [HB.out]; exact decide_eq_false (by have := K2.out; omega)), bel⟩
        · have HB := Lib.hid (HR2.out (.inl (by omega)))
          go_wp2_with (go_at_call 65; refine HC.out.mono ?_; rintro e w' ⟨rfl, rfl⟩)
          go_ret
          exact ⟨ret_b HB.out.symm, bel⟩
theorem isAb_yes (v : Value) (x : Ab) (w : World) (h : spAb.rd w v x) (hk : x.ok = true) : Calls Try.prog 46 #[v] w (RetB true w) := by
  have := isAb_any v x w h; rwa [hk] at this
theorem isAb_no (v : Value) (x : Ab) (w : World) (h : spAb.rd w v x) (hk : x.ok = false) : Calls Try.prog 46 #[v] w (RetB false w) := by
  have := isAb_any v x w h; rwa [hk] at this

/-! ### The model -/
set_option maxHeartbeats 1000000 in
theorem sIsAb_any (v : Value) (x : Ab) (w : World) (h : spAb.rd w v x) :
    Calls Try.prog 49 #[v] w (RetB x.ok w) := by
  obtain ⟨F, K⟩ := x
  obtain ⟨_, rfl, A, c, rfl, hm, hA0⟩ := h
  replace hA0 : RdI w A F := hA0
  have hm' : F.length ≤ maxLen := hm
  unfold maxLen at hm'
  show Calls Try.prog 49 #[.agg #[.slice A F.length c, .int .i64 K]] w fun e w' => e = .returned (.bool (Num.abB F K)) ∧ Below w.heap.size w w'
  have b0 : Below w.heap.size w (w.alloc (.cells #[.slice A F.length c, .int .i64 K] 40)) := by go_grown
  have hA := hA0.below' b0
  have bel := b0
  clear hA0 b0 hm
  by_cases h10 : F.length ≤ 10
  · by_cases hK : 0 ≤ K ∧ K ≤ 10 - (F.length : Int)
    · obtain ⟨k1, k2⟩ := hK
      have HR : Hid (Num.Rngs F F.length → Num.Links F F.length → Num.abB F K = true) := Lib.hid fun hr hl => Num.abB_ok h10 k1 k2 hr (Num.chainB_ok hl)
      have HB1 : Hid (∀ j, j < F.length → ¬ Num.Rng F j → Num.abB F K = false) := Lib.hid fun j hj => Num.abB_rng hj
      have HB2 : Hid (∀ j, j < F.length → ¬ Num.Link F j → Num.abB F K = false) := Lib.hid fun j hj => Num.abB_link hj
      have l10 : ¬ (10 < (F.length : Int)) := by omega
      go_enter Try.func49, Try.ntmps49
      go_wp2_with (go_at_call 32; refine (sIn_yes _ _ _ _ k1 k2).mono ?_; rintro e w' ⟨rfl, rfl⟩)
      go_loopw [4] (fun s wr => ∃ k n : Nat, k ≤ F.length ∧ s = .int .i64 k ∧ Num.Rngs F k ∧ Num.Links F k ∧ wr = (w.alloc (.cells #[.slice A F.length c, .int .i64 K] 40)).drewN n) (fun s _ => F.length - (intOf s).toNat)
      case atStart => exact ⟨0, 0, by omega, rfl, Num.Rngs.zero F, Num.Links.zero F, rfl⟩
      case round =>
        obtain ⟨k, n, hk, rfl, hp, hq, rfl⟩ := hrel
        by_cases hlt : k < F.length
        · obtain ⟨g, o, rfl, hg, hc⟩ := hA k hlt
          have i0 : (0 : Int) ≤ (k : Int) := by omega
          have i1 : (k : Int) < (F.length : Int) := by omega
          by_cases hx : Num.Rng F k
          · obtain ⟨hx1, hx2⟩ := hx
            have HP := Lib.hid (hp.step ⟨hx1, hx2⟩)
            by_cases k0 : 0 < (k : Int)
            · have i2 : (0 : Int) ≤ (k : Int) - 1 := by omega
              have i3 : (k : Int) - 1 < (F.length : Int) := by omega
              obtain ⟨g', o', e', _, hc2⟩ := hA (k - 1) (by omega)
              simp only [Option.some.injEq, Addr.mk.injEq, and_true] at e'
              obtain ⟨rfl, rfl⟩ := e'
              have hx0 : 0 < F.getD k 0 := by omega
              have hpos : 0 < F.getD (k - 1) 0 := by have := (hp (k - 1) (by omega)).1; omega
              have epv : Num.prevD F k = F.getD (k - 1) 0 := by unfold Num.prevD; rw [if_neg (by omega)]
              by_cases hL : F.getD k 0 % F.getD (k - 1) 0 = 0
              · have HQ : Hid (Num.Links F (k + 1)) := Lib.hid (hq.step ⟨hx0, by rw [epv]; exact hL⟩)
                have T1 : (F.getD k 0 % F.getD (k - 1) 0 != 0) = false := bne_eq_false_iff_eq.mpr hL
                have k0' : 0 < k := by omega
                clear hp hq HR HB1 HB2 epv
                generalize F.getD (k - 1) 0 = y at *
                generalize F.getD k 0 = x at *
                have HI := Lib.hid hx1
                have HI2 := Lib.hid hx2
                have x0 : 0 ≤ x := by omega
                go_wp2_with (fail)
                go_quiet ((go_at_call 32; exact quiet_more fun W hW => sIn_yes _ _ _ W HI.out HI2.out))
                go_wp2_with (fail)
                exact ⟨⟨k + 1, _, by omega, by go_num, HP.out, HQ.out, rfl⟩, by simp [intOf]; omega⟩
              · have HB : Hid (Num.abB F K = false) := Lib.hid (HB2.out k hlt (fun h => hL (by rw [← epv]; exact h.2)))
                have T1 : (F.getD k 0 % F.getD (k - 1) 0 != 0) = true := bne_iff_ne.mpr hL
                have k0' : 0 < k := by omega
                clear hp hq HR HB1 HB2 epv HP
                generalize F.getD (k - 1) 0 = y at *
                generalize F.getD k 0 = x at *
                have HI := Lib.hid hx1
                have HI2 := Lib.hid hx2
                have x0 : 0 ≤ x := by omega
                go_wp2_with (fail)
                go_quiet ((go_at_call 32; exact quiet_more fun W hW => sIn_yes _ _ _ W HI.out HI2.out))
                go_wp2_with (fail)
                go_ret
                exact ⟨ret_b HB.out.symm, by rw [World.drewN_drewN]; exact below_drewN bel _⟩
            · have HQ : Hid (Num.Links F (k + 1)) := Lib.hid (hq.step ⟨by omega, by rw [show k = 0 by omega, Num.prevD_zero]; exact Int.emod_one _⟩)
              have k0' : ¬ 0 < k := by omega
              clear hp hq HR HB1 HB2
              generalize F.getD k 0 = x at *
              have HI := Lib.hid hx1
              have HI2 := Lib.hid hx2
              go_wp2_with (fail)
              go_quiet ((go_at_call 32; exact quiet_more fun W hW => sIn_yes _ _ _ W HI.out HI2.out))
              go_wp2_with (fail)
              exact ⟨⟨k + 1, _, by omega, by go_num, HP.out, HQ.out, rfl⟩, by simp [intOf]; omega⟩
          · have HB := Lib.hid (HB1.out k hlt hx)
            have HX : Hid (F.getD k 0 < 2 ∨ 1000000 < F.getD k 0) := Lib.hid (by unfold Num.Rng at hx; omega)
            clear hp hq HR HB1 HB2 hx
            generalize F.getD k 0 = x at *
            go_wp2_with (fail)
            go_quiet ((go_at_call 32; exact quiet_more fun W hW => sIn_no _ _ _ W HX.out))
            go_wp2_with (fail)
            go_ret
            exact ⟨ret_b HB.out.symm, by rw [World.drewN_drewN]; exact below_drewN bel _⟩
        · have hge : ¬ ((k : Int) < (F.length : Int)) := by omega
          obtain rfl : k = F.length := by omega
          have HB : Hid (Num.abB F K = true) := Lib.hid (HR.out hp hq)
          go_wp2_with (fail)
          go_ret
          exact ⟨ret_b HB.out.symm, below_drewN bel _⟩
    · have HB : Hid (Num.abB F K = false) := Lib.hid (Num.abB_rank (by omega))
      have H2 : Hid (K < 0 ∨ 10 - (F.length : Int) < K) := Lib.hid (by omega)
      have l10 : ¬ (10 < (F.length : Int)) := by omega
      clear hK
      go_enter Try.func49, Try.ntmps49
      go_wp2_with (go_at_call 32; refine (sIn_no _ _ _ _ H2.out).mono ?_; rintro e w' ⟨rfl, rfl⟩)
      go_ret
      exact ⟨ret_b HB.out.symm, bel⟩
  · have HB : Hid (Num.abB F K = false) := Lib.hid (Num.abB_len (by omega))
    have l10 : 10 < (F.length : Int) := by omega
    go_enter Try.func49, Try.ntmps49
    go_wp2_with (fail)
    go_ret
    exact ⟨ret_b HB.out.symm, bel⟩
theorem sIsAb_yes (v : Value) (x : Ab) (w : World) (h : spAb.rd w v x) (hk : x.ok = true) : Calls Try.prog 49 #[v] w (RetB true w) := by
  have := sIsAb_any v x w h; rwa [hk] at this
theorem sIsAb_no (v : Value) (x : Ab) (w : World) (h : spAb.rd w v x) (hk : x.ok = false) : Calls Try.prog 49 #[v] w (RetB false w) := by
  have := sIsAb_any v x w h; rwa [hk] at this
/-- The result of IsAbelian. -/
def rIsAbelian (x : Ab) : Bool := x.ok
theorem iIsAbelian_ok (v0 : Value) (x0 : Ab) (w : World) (h0 : spAb.rd w v0 x0) (s0 : spAb.sz x0 ≤ 1048576) : Calls Try.prog 46 #[v0] w (RetB (rIsAbelian x0) w) := isAb_any v0 x0 w h0
theorem sIsAbelian_ok (v0 : Value) (x0 : Ab) (w : World) (h0 : spAb.rd w v0 x0) (s0 : spAb.sz x0 ≤ 1048576) : Calls Try.prog 49 #[v0] w (RetB (rIsAbelian x0) w) := sIsAb_any v0 x0 w h0
end Go.Proofs.Ytpplojbcjgiabaa
