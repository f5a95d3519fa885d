/- Primes by trial division, of the program and of the model. -/
import Derived.Test.YtihdidbikeaafaaL07C
import Derived.Test.YtihdidbikeaafaaL01G
import Derived.Test.YtihdidbikeaafaaNumK
namespace Go.Proofs.Ytihdidbikeaafaa
open Go.RowKit
set_option linter.unusedVariables false
set_option linter.unusedSimpArgs false
set_option maxHeartbeats 400000 in
theorem equalI_any (v u : Value) (xs ys : List Int) (w : World) (h : spI.rd w v xs) (k : spI.rd w u ys) :
    Calls Try.prog 98 #[v, u] w fun e w' => e = .returned (.bool (decide (xs = ys))) ∧ Below w.heap.size w w' := by
  obtain ⟨A, c, rfl, mA, hA⟩ := h
  obtain ⟨B, d, rfl, mB, hB⟩ := k
  have HR := Lib.hid hA
  have HK := Lib.hid hB
  unfold maxLen at mA mB
  clear hA hB
  by_cases hl : xs.length = ys.length
  · have el : ((xs.length : Int) != (ys.length : Int)) = false := by simp [hl]
    have HL := Lib.hid hl
    have l1 : xs.length ≤ ys.length := by omega
    clear hl
    go_enter Try.func98, Try.ntmps98
    go_wp2_with (fail)
    go_loopw [13] (fun s wr => ∃ j n : Nat, s = .int .i64 j ∧ j ≤ xs.length ∧ Hid (∀ i, i < j → xs.getD i 0 = ys.getD i 0) ∧ wr = w.drewN n) (fun s _ => xs.length - (intOf s).toNat)
    case atStart => exact ⟨0, 0, rfl, by omega, Lib.hid fun i hi => by omega, rfl⟩
    case round =>
      obtain ⟨j, n, rfl, hj, hz, rfl⟩ := hrel
      clear el
      by_cases hlt : j < xs.length
      · obtain ⟨g, o, rfl, hg, hc⟩ := HR.out j hlt
        obtain ⟨g', o', rfl, hg', hc'⟩ := HK.out j (by omega)
        have i0 : (0 : Int) ≤ (j : Int) := by omega
        have i1 : (j : Int) < (xs.length : Int) := by omega
        have i2 : (j : Int) < (ys.length : Int) := by omega
        by_cases hy : xs.getD j 0 = ys.getD j 0
        · have HZ : Hid (∀ i, i < j + 1 → xs.getD i 0 = ys.getD i 0) := Lib.hid fun i hi => by
            by_cases e : i = j
            · rw [e]; exact hy
            · exact hz.out i (by omega)
          rw [← hy] at hc'
          clear hy
          generalize xs.getD j 0 = y at *
          go_wp2
          go_quiet (fail)
          go_wp2
          exact ⟨⟨j + 1, _, by go_num, by omega, HZ, rfl⟩, by simp [intOf]; omega⟩
        · have E : Hid (decide (xs = ys) = false) := Lib.hid (decide_eq_false fun e => hy (by rw [e]))
          have hy' : (xs.getD j 0 != ys.getD j 0) = true := bne_iff_ne.mpr hy
          clear hy
          generalize xs.getD j 0 = y at *
          generalize ys.getD j 0 = z at *
          go_wp2
          go_quiet (fail)
          go_wp2
          go_ret
          exact ⟨ret_b E.out.symm, by rw [World.drewN_drewN]; exact below_drewN (Below.refl _ _) _⟩
      · have hge : ¬ ((j : Int) < (xs.length : Int)) := by omega
        obtain rfl : j = xs.length := by omega
        have E : Hid (decide (xs = ys) = true) := Lib.hid (decide_eq_true (List.ext_getElem HL.out fun i h1 h2 => by have := hz.out i h1; simpa [h1, h2] using this))
        go_wp2_with (fail)
        go_ret
        exact ⟨ret_b E.out.symm, below_drewN (Below.refl _ _) _⟩
  · have el : ((xs.length : Int) != (ys.length : Int)) = true := by simp; omega
    have E : Hid (decide (xs = ys) = false) := Lib.hid (decide_eq_false fun e => hl (by rw [e]))
    clear hl
    go_enter Try.func98, Try.ntmps98
    go_wp2_with (fail)
    go_ret
    exact ⟨ret_b E.out.symm, Below.refl _ _⟩

/-- A prime, as trial division tells. -/
def Num.isP (p : Int) : Bool := decide (2 ≤ p) && decide (Num.baseN p = p)
theorem Num.isP_fac {n : Int} (h : 1 ≤ n) : decide (Num.facP 2 n = [n]) = Num.isP n := by
  unfold Num.isP
  by_cases h1 : n = 1
  · subst h1
    rw [show Num.facP 2 1 = [] by rw [Num.facP, Num.facL_one (by omega)]; rfl]
    simp
  · rw [decide_eq_true (show 2 ≤ n by omega), Bool.true_and]
    exact decide_eq_decide.mpr (Num.facP_self (by omega))
theorem Num.isP_small {n : Int} (h : n < 2) : Num.isP n = false := by unfold Num.isP; rw [decide_eq_false (by omega)]; rfl
theorem isPrime_any (n : Int) (w : World) (hn : n ≤ 1000) : Calls Try.prog 74 #[.int .i64 n] w fun e w' => e = .returned (.bool (Num.isP n)) ∧ Below w.heap.size w w' := by
  by_cases h1 : 1 ≤ n
  · have HC : Hid (Calls Try.prog 76 #[.int .i64 n] w (FacPost w (Num.facP 2 n) (Num.facE 2 n))) := Lib.hid ((factorize_ok n w h1 (by omega)).mono fun e w' h => FacPost.of h)
    have HP := Lib.hid (Num.isP_fac h1)
    generalize Num.facP 2 n = P at *
    generalize Num.facE 2 n = E at *
    go_enter Try.func74, Try.ntmps74
    go_wp2_with (fail)
    refine HC.out.mono ?_; rintro e w1 ⟨B1, d1, B2, d2, rfl, o1, o2, -, hb⟩
    have HE : Hid (∀ W u, Below w1.heap.size w1 W → spI.rd W u [n] → Calls Try.prog 98 #[.slice B1 P.length d1, u] W fun e w' => e = .returned (.bool (decide (P = [n]))) ∧ Below W.heap.size W w') := Lib.hid fun W u hW hu => equalI_any _ _ P [n] W ((o1.below hW).form.elim fun A hh => by
      obtain ⟨A', c', e, hm⟩ := ownsRow_cap (o1.below hW)
      rw [e]
      have ho := o1.below hW
      rw [e] at ho
      exact ⟨A', c', rfl, hm, ho.reads⟩) hu
    rw [HP.out] at HE
    clear o1 o2 HC
    have HE2 := Lib.hid (HE.out (w1.alloc (.cells #[.int .i64 n] 2)) (.slice (some ⟨w1.heap.size, 0, none⟩) 1 1) ((Below.refl _ _).alloc (Nat.le_refl _) _) ⟨_, _, rfl, by unfold maxLen; simp, fun j hj => by
      have hj0 : j = 0 := by simpa using hj
      subst hj0
      refine ⟨_, 0, rfl, by simp, ?_⟩

      simp [Addr.add]⟩)
    clear HE
    go_wp2_with (fail)
    refine HE2.out.mono ?_; rintro e w2 ⟨rfl, hb2⟩
    have LZ := bstep (hb.alloc hb.size _) (by have := hb.size; simp; omega) hb2
    clear HE2
    go_wp2_with (fail)
    go_ret
    exact ⟨rfl, LZ⟩
  · have HC := Lib.hid (factorize_bad n w (.inl (by omega)))
    have HP := Lib.hid (Num.isP_small (n := n) (by omega))
    have HE := Lib.hid (equalI_any (.slice none 0 0) (.slice (some ⟨w.heap.size, 0, none⟩) 1 1) [] [n] (w.alloc (.cells #[.int .i64 n] 2)) ⟨none, 0, rfl, by simp, fun j hj => by simp at hj⟩ ⟨_, _, rfl, by unfold maxLen; simp, fun j hj => by
      have hj0 : j = 0 := by simpa using hj
      subst hj0
      refine ⟨_, 0, rfl, by simp, ?_⟩

      simp [Addr.add]⟩)
    rw [decide_eq_false (by simp)] at HE
    go_enter Try.func74, Try.ntmps74
    go_wp2_with (fail)
    refine HC.out.mono ?_; rintro e w1 ⟨rfl, rfl⟩
    clear HC
    go_wp2_with (fail)
    refine HE.out.mono ?_; rintro e w2 ⟨rfl, hb2⟩
    have LZ := bstep ((Below.refl w.heap.size w).alloc (Nat.le_refl _) (.cells #[.int .i64 n] 2)) (by simp) hb2
    clear HE
    go_wp2_with (fail)
    go_ret
    exact ⟨ret_b HP.out.symm, LZ⟩

/-! ### The model's base of a prime power -/
set_option maxHeartbeats 1000000 in
theorem sBase_any (n : Int) (w : World) (hn : n ≤ 1000000) : Calls Try.prog 73 #[.int .i64 n] w fun e w' => e = .returned (.int .i64 (Num.baseN n)) ∧ w = w' := by
  by_cases h1 : n < 2
  · have HB := Lib.hid (Num.baseN_small h1)
    go_enter Try.func73, Try.ntmps73
    go_wp2_with (fail)
    go_ret
    exact ⟨ret_i HB.out.symm, rfl⟩
  · have n2 : 2 ≤ n := by omega
    go_enter Try.func73, Try.ntmps73
    go_wp2_with (fail)
    go_loop [3] (fun s => ∃ d : Int, s = .int .i64 d ∧ 2 ≤ d ∧ d ≤ n ∧ Hid (Num.leastD 2 n = Num.leastD d n)) (fun s => (n - intOf s).toNat)
    case atStart => exact ⟨2, rfl, by omega, n2, Lib.hid rfl⟩
    case round =>
      obtain ⟨d, rfl, d1, d2, HD⟩ := hrel
      obtain ⟨q1, q2⟩ := Num.sq_fits d1 (by omega)
      by_cases hs : d * d ≤ n
      · have hb := Num.sq_big d1 hs
        by_cases hm : n % d = 0
        · have HS := Lib.hid (Num.leastD_stop (d := d) (n := n) (fun h => h.2 hm))
          have T1 : (n % d != 0) = false := bne_eq_false_iff_eq.mpr hm
          have hs' : ¬ n < d * d := by omega
          have HQ : Hid (Num.leastD 2 n = d) := Lib.hid (HD.out.trans HS.out)
          have HSQ : Hid (Num.leastD 2 n * Num.leastD 2 n ≤ n) := Lib.hid (by rw [HQ.out]; exact hs)
          have HNO : Hid (1 < Num.vr d n → Num.baseN n = 0) := Lib.hid fun h => Num.baseN_none n2 HSQ.out (by rw [HQ.out]; exact h)
          have HYE : Hid (¬ 1 < Num.vr d n → Num.baseN n = d) := Lib.hid fun h => (Num.baseN_pow n2 HSQ.out (by rw [HQ.out]; exact h)).trans HQ.out
          clear hm HD HS HQ HSQ
          go_wp2_with (fail)
          go_loop [0] (fun s0 => ∃ c k : Int, s0 = .int .i64 c ∧ Num.RemInv d n c k) (fun s0 => (intOf s0).toNat)
          case atStart => exact ⟨n, 0, rfl, Num.remInv_start (by omega)⟩
          case round =>
            obtain ⟨c, k, rfl, hi⟩ := hrel
            obtain ⟨b1, b2, b3⟩ := Num.remInv_bd hi
            by_cases hd : c % d = 0
            · obtain ⟨e1, e2, e3⟩ := Num.div_bd d1 b1 hd
              have hs2 := Num.remInv_step d1 hi hd
              have ht : (c % d == 0) = true := by simp [hd]
              clear e3 hd
              go_wp2
              exact ⟨⟨_, _, rfl, hs2⟩, by simp [intOf]; omega⟩
            · have ht : (c % d == 0) = false := by simp [hd]
              obtain ⟨-, h2⟩ := Num.remInv_end d1 hi hd
              rw [← h2] at HNO HYE
              clear h2 hd hi
              by_cases hc : 1 < c
              · have HR := Lib.hid (HNO.out hc)
                clear HNO HYE
                go_wp2
                go_ret
                exact ⟨ret_i HR.out.symm, rfl⟩
              · have HR := Lib.hid (HYE.out (by omega))
                clear HNO HYE
                go_wp2
                go_ret
                exact ⟨ret_i HR.out.symm, rfl⟩
        · have HS := Lib.hid (Num.leastD_go d1 hs hm)
          have T1 : (n % d != 0) = true := bne_iff_ne.mpr hm
          clear hm
          go_wp2_with (fail)
          exact ⟨⟨d + 1, rfl, by omega, by omega, Lib.hid (HD.out.trans HS.out)⟩, by simp [intOf]; omega⟩
      · have HS := Lib.hid (Num.leastD_stop (d := d) (n := n) (fun h => hs h.1))
        have hs' : n < d * d := by omega
        have HR : Hid (Num.baseN n = n) := Lib.hid (Num.baseN_self n2 (by rw [HD.out, HS.out]; exact hs'))
        clear HD HS
        go_wp2_with (fail)
        go_ret
        exact ⟨ret_i HR.out.symm, rfl⟩

/-! ### The subgroups of prime order -/
def Num.linesLim (p n : Int) : List Int → Option Int
  | [] => some n
  | x :: xs => if x % p = 0 then (if 1000000000000000 < n * p + 1 then none else Num.linesLim p (n * p + 1) xs) else Num.linesLim p n xs
def Num.LinInv (p : Int) (F : List Int) (n : Int) (k : Nat) : Prop := 0 ≤ n ∧ n ≤ 1000000000000000 ∧ Num.linesLim p 0 F = Num.linesLim p n (F.drop k)
def Num.lin (p : Int) (F : List Int) : Int := (Num.linesLim p 0 F).getD 0
def Num.linC (p : Int) (F : List Int) : Int := if (Num.linesLim p 0 F).isSome then 0 else 3
theorem Num.linInv_start (p : Int) (F : List Int) : Num.LinInv p F 0 0 := ⟨by omega, by omega, by simp⟩
theorem Num.lin_drop {p n : Int} {F : List Int} {k : Nat} (hk : k < F.length) : Num.linesLim p n (F.drop k) = if F.getD k 0 % p = 0 then (if 1000000000000000 < n * p + 1 then none else Num.linesLim p (n * p + 1) (F.drop (k + 1))) else Num.linesLim p n (F.drop (k + 1)) := by
  rw [List.drop_eq_getElem_cons hk]
  simp [Num.linesLim, hk]
theorem Num.linInv_skip {p n : Int} {F : List Int} {k : Nat} (h : Num.LinInv p F n k) (hk : k < F.length) (hx : ¬ F.getD k 0 % p = 0) : Num.LinInv p F n (k + 1) := ⟨h.1, h.2.1, by rw [h.2.2, Num.lin_drop hk, if_neg hx]⟩
theorem Num.linInv_step {p n : Int} {F : List Int} {k : Nat} (h : Num.LinInv p F n k) (hk : k < F.length) (hp : 0 ≤ p) (hx : F.getD k 0 % p = 0) (hc : ¬ 1000000000000000 < n * p + 1) : Num.LinInv p F (n * p + 1) (k + 1) := by
  have := Int.mul_nonneg h.1 hp
  exact ⟨by omega, by omega, by rw [h.2.2, Num.lin_drop hk, if_pos hx, if_neg hc]⟩
theorem Num.linInv_over {p n : Int} {F : List Int} {k : Nat} (h : Num.LinInv p F n k) (hk : k < F.length) (hx : F.getD k 0 % p = 0) (hc : 1000000000000000 < n * p + 1) : Num.lin p F = 0 ∧ Num.linC p F = 3 := by
  have e : Num.linesLim p 0 F = none := by rw [h.2.2, Num.lin_drop hk, if_pos hx, if_pos hc]
  unfold Num.lin Num.linC
  rw [e]
  exact ⟨rfl, rfl⟩
theorem Num.linInv_end {p n : Int} {F : List Int} (h : Num.LinInv p F n F.length) : Num.lin p F = n ∧ Num.linC p F = 0 := by
  have e : Num.linesLim p 0 F = some n := by rw [h.2.2, List.drop_length]; rfl
  unfold Num.lin Num.linC
  rw [e]
  exact ⟨rfl, rfl⟩
theorem Num.lin_mul {n p : Int} (h0 : 0 ≤ n) (h1 : n ≤ 1000000000000000) (p0 : 2 ≤ p) (p1 : p ≤ 1000) : 0 ≤ n * p ∧ n * p ≤ 1000000000000000000 := by
  have := Int.mul_le_mul h1 p1 (by omega) (by omega)
  have := Int.mul_nonneg h0 (show 0 ≤ p by omega)
  omega
theorem Num.lin_quo {n p : Int} (p0 : 2 ≤ p) : 999999999999999 / p < n ↔ 1000000000000000 < n * p + 1 := by
  rw [Int.ediv_lt_iff_lt_mul (by omega : 0 < p)]
  omega
def rCountPrimeSubgroups (x : Ab) (p : Int) : Int := if x.ok = true then (if p ≤ 1000 ∧ Num.isP p = true then Num.lin p x.F else 0) else 0
def cCountPrimeSubgroups (x : Ab) (p : Int) : Int := if x.ok = true then (if p ≤ 1000 ∧ Num.isP p = true then Num.linC p x.F else 2) else 1
theorem Ab.psub_bad {x : Ab} {p : Int} (h : x.ok = false) : rCountPrimeSubgroups x p = 0 ∧ cCountPrimeSubgroups x p = 1 := by unfold rCountPrimeSubgroups cCountPrimeSubgroups; simp [h]
theorem Ab.psub_rng {x : Ab} {p : Int} (h : x.ok = true) (h' : ¬ (p ≤ 1000 ∧ Num.isP p = true)) : rCountPrimeSubgroups x p = 0 ∧ cCountPrimeSubgroups x p = 2 := by unfold rCountPrimeSubgroups cCountPrimeSubgroups; rw [if_pos h, if_pos h, if_neg h', if_neg h']; exact ⟨rfl, rfl⟩
theorem Ab.psub_ok {x : Ab} {p : Int} (h : x.ok = true) (h' : p ≤ 1000 ∧ Num.isP p = true) : rCountPrimeSubgroups x p = Num.lin p x.F ∧ cCountPrimeSubgroups x p = Num.linC p x.F := by unfold rCountPrimeSubgroups cCountPrimeSubgroups; rw [if_pos h, if_pos h, if_pos h', if_pos h']; exact ⟨rfl, rfl⟩
end Go.Proofs.Ytihdidbikeaafaa
