/- The cyclic groups of an abelian group, of the program and of the model; one chain covers another. -/
import Derived.Test.YtpplojbcjgiabaaL07B
import Derived.Test.YtpplojbcjgiabaaNumO
import Derived.Test.YtpplojbcjgiabaaApZ
import Derived.Maps.AppendAt
namespace Go.Proofs.Ytpplojbcjgiabaa
open Go.RowKit
set_option linter.unusedVariables false
set_option linter.unusedSimpArgs false

theorem infoCy : (Try.prog.info? 80).map (fun i => (i.zero, i.size, i.bytes)) = some (some (.int .i64 0), 1, 8) := by kernel_rfl
/-- A list of orders in memory of the call's own. -/
def OwnC (w : World) (base : Nat) (v : Value) (xs : List Int) : Prop := w.ownsRow base 80 1 v xs.length (xs.map (Value.int .i64))
theorem OwnC.alloc {w : World} {base : Nat} {v : Value} {xs : List Int} (h : OwnC w base v xs) (o : Obj) : OwnC (w.alloc o) base v xs := World.ownsRow.alloc h o
theorem OwnC.snoc {w : World} {base : Nat} {v : Value} {xs : List Int} {x : Int} (h : w.ownsRow base 80 1 v (xs.length + 1) (xs.map (Value.int .i64) ++ [.int .i64 x])) : OwnC w base v (xs ++ [x]) := by
  unfold OwnC
  simpa using h
theorem OwnC.base_le {w : World} {base : Nat} {v : Value} {xs : List Int} (h : OwnC w base v xs) : ∀ k, v.ownBlock = some k → base ≤ k := fun k hk => (World.ownsRow.lt h k hk).1
theorem OwnC.rd {w : World} {base : Nat} {v : Value} {xs : List Int} (h : OwnC w base v xs) : spI.rd w v xs := by
  obtain ⟨A, cap, rfl, hm⟩ := ownsRow_cap h
  exact ⟨A, cap, rfl, hm, RdI.own h⟩
set_option maxRecDepth 100000 in
set_option maxHeartbeats 1000000 in
theorem cyclicGroups_own (A : Option Addr) (c : Nat) (F : List Int) (K : Int) (w : World) (h : RdI w A F) (hl : F.length ≤ 100) (k0 : 0 ≤ K) (k1 : K ≤ 100) :
    Calls Try.prog 66 #[.slice A F.length c, .int .i64 K] w fun e w' => ∃ v, e = .returned v ∧ OwnC w' w.heap.size v (Num.chainL F K) ∧ Below w.heap.size w w' := by
  obtain ⟨i0, hi, hz0, hz1, hz2⟩ := info_parts infoCy
  have HF := Lib.hid h
  have HT0 : Hid (∀ j, j < F.length → F.take (j + 1) = F.take j ++ [F.getD j 0]) := Lib.hid fun j hj => by rw [List.take_succ_eq_append_getElem hj]; simp [hj]
  clear h
  go_enter Try.func66, Try.ntmps66
  go_wp2_with (fail)
  go_loopw [5, 10] (fun s5 s10 wr => ∃ j : Nat, s10 = .int .i64 j ∧ j ≤ F.length ∧ Hid (OwnC wr w.heap.size s5 (F.take j)) ∧ Below w.heap.size w wr) (fun _ s10 _ => F.length - (intOf s10).toNat)
  case atStart => exact ⟨0, rfl, by omega, Lib.hid (World.ownsRow_nil _ _ _ _), Below.refl _ _⟩
  case round =>
    obtain ⟨j, rfl, hj, HO, bw⟩ := hrel
    have bws := bw.size
    have HB := Lib.hid HO.out.base_le
    by_cases hlt : j < F.length
    · obtain ⟨g, o, rfl, hg, hc⟩ := (HF.out.below' bw) j hlt
      have j0 : (0 : Int) ≤ (j : Int) := by omega
      have j1 : (j : Int) < (F.length : Int) := by omega
      have EC := Lib.hid (HT0.out j hlt)
      have xl : (F.take j).length ≤ 100 := by simp; omega
      generalize F.getD j 0 = x at *
      generalize F.take j = X at *
      go_wp2_with (first | (at_builtin; refine wpList_append_own_at _ rfl (.tmp 14) (.tmp 16) 76 rfl w.heap.size 80 i0 (.int .i64 0) 1 8 Try.underlying76 hi hz0 hz1 hz2 rfl (by decide) _ _ _ rfl (HO.out.alloc _) ⟨_, 0, none⟩ 1 1 [.int .i64 x] rfl rfl (cell_one_new _ _ _) (by simp [Value.oneCell']) (by unfold maxLen; omega) (by omega) (by simp; omega) ?_; intro v3 w3 own3 gr3 _ at3))
      exact ⟨⟨j + 1, by go_num, by omega, Lib.hid (by rw [EC.out]; exact OwnC.snoc own3), (bw.alloc (by omega) _).grown gr3 (by simp; omega) HB.out⟩, by simp [intOf]; omega⟩
    · obtain rfl : j = F.length := by omega
      have hge : ¬ ((F.length : Int) < (F.length : Int)) := by omega
      have HO2 := Lib.hid (by have := HO.out; rwa [List.take_length] at this : OwnC wr w.heap.size u5 F)
      have HKN : Hid ((K.toNat : Int) = K) := Lib.hid (by omega)
      have HKL : Hid (K.toNat ≤ 100) := Lib.hid (by omega)
      obtain ⟨v3, w3, hrun, own3, gr3, at3⟩ := run_append_zeros_own (P := Try.prog) wr w.heap.size 76 2 76 80 i0 (.int .i64 0) 1 8 .i64 .i64 Try.underlying76 Try.underlying2 hi hz0 hz1 hz2 rfl (by decide) u5 F.length (F.map (Value.int .i64)) HO2.out K.toNat (fun u hu => by rw [zeros_ints] at hu; exact oneCell_ints _ u hu) (by have := HKL.out; unfold maxLen; omega) (by have := HKL.out; omega) bws
      rw [zeros_ints, ← List.map_append, HKN.out] at *
      have own4 : OwnC w3 w.heap.size v3 (Num.chainL F K) := by
        unfold OwnC
        rw [Num.chainL_len]
        exact own3
      have HRUN := Lib.hid hrun
      have HR4 := Lib.hid own4
      have HBW := Lib.hid (bw.grown gr3 bws HB.out)
      clear hrun own3 own4 gr3 at3 HO HO2
      go_wp2_with (at_builtin; refine Lib.wpList_append_run _ rfl _ _ _ _ rfl _ _ rfl rfl _ _ HRUN.out ?_)
      go_ret
      exact ⟨_, rfl, HR4.out, HBW.out⟩
theorem OwnC.lower {w : World} {base base' : Nat} {v : Value} {xs : List Int} (h : OwnC w base v xs) (hb : base' ≤ base) : OwnC w base' v xs := ownsRow_base h hb
theorem chainFor_own (v : Value) (x : Ab) (w : World) (h : spAb.rd w v x) (hk : x.ok = true) :
    Calls Try.prog 47 #[v] w fun e w' => ∃ v, e = .returned v ∧ OwnC w' w.heap.size v (Num.chainL x.F x.K) ∧ Below w.heap.size w w' := by
  obtain ⟨h1, h2, h3, -, -⟩ := Num.abB_out hk
  obtain ⟨F, K⟩ := x
  obtain ⟨_, rfl, A, c, rfl, hm, hA0⟩ := h
  replace hA0 : RdI w A F := hA0
  have b0 : Below w.heap.size w (w.alloc (.cells #[.slice A F.length c, .int .i64 K] 40)) := by go_grown
  have HC := Lib.hid (cyclicGroups_own A c F K _ (hA0.below' b0) (by have : F.length ≤ 10 := h1; omega) h2 (by have : K ≤ 10 - (F.length : Int) := h3; omega))
  clear h1 h2 h3 hk hm hA0
  go_enter Try.func47, Try.ntmps47
  go_wp2_with (fail)
  refine HC.out.mono ?_; rintro e w1 ⟨u, rfl, hr, hb⟩
  have HR := Lib.hid (hr.lower b0.size)
  have L := bstep b0 b0.size hb
  clear HC hr hb
  go_wp2_with (fail)
  go_ret
  exact ⟨_, rfl, HR.out, L⟩
theorem chainFor_any (v : Value) (x : Ab) (w : World) (h : spAb.rd w v x) (hk : x.ok = true) :
    Calls Try.prog 47 #[v] w fun e w' => ∃ v, e = .returned v ∧ spI.rd w' v (Num.chainL x.F x.K) ∧ Below w.heap.size w w' := by
  refine (chainFor_own v x w h hk).mono ?_
  rintro e w' ⟨u, rfl, ho, hb⟩
  exact ⟨u, rfl, ho.rd, hb⟩
theorem divisorWith_any (a b : Int) (w : World) (ha0 : 0 ≤ a) (ha1 : a ≤ 1000000) (hb0 : 0 ≤ b) (hb1 : b ≤ 1000000) :
    Calls Try.prog 99 #[.int .i64 a, .int .i64 b] w fun e w' => e = .returned (.int .i64 (Int.gcd a b)) ∧ Below w.heap.size w w' := by
  have HC := Lib.hid (commonDivisor_any a b w (by omega) ha1 (by omega) hb1)
  go_enter Try.func99, Try.ntmps99
  go_wp2_with (fail)
  refine HC.out.mono ?_; rintro e w1 ⟨rfl, hb⟩
  clear HC
  go_wp2_with (fail)
  go_ret
  exact ⟨rfl, hb⟩
set_option maxHeartbeats 1000000 in
theorem covers_any (v u : Value) (x y : List Int) (w : World) (hv : spI.rd w v x) (hu : spI.rd w u y) (hx : ∀ j, 0 ≤ x.getD j 0 ∧ x.getD j 0 ≤ 1000000) (hy : ∀ j, 0 ≤ y.getD j 0 ∧ y.getD j 0 ≤ 1000000) (lx : x.length ≤ 100) (ly : y.length ≤ 100) :
    Calls Try.prog 48 #[v, u] w fun e w' => e = .returned (.bool (Num.covD x.reverse y.reverse)) ∧ Below w.heap.size w w' := by
  obtain ⟨A, cA, rfl, -, hA⟩ := hv
  obtain ⟨B, cB, rfl, -, hB⟩ := hu
  have HA := Lib.hid hA
  have HB := Lib.hid hB
  have hm : ∀ (a : Int) (W : World), (method 232 80 (.int .i64 a) "loop.example/g01076/impl.divisorWith").run Try.prog W = .ok (99, .int .i64 a) W := fun _ _ => by kernel_rfl
  clear hA hB
  by_cases hl : y.length ≤ x.length
  · have l1 : ¬ ((x.length : Int) - (y.length : Int) < 0) := by omega
    have HBAD : Hid (∀ j, j < y.length → ¬ ((Int.gcd (x.getD (x.length - y.length + j) 0) (y.getD j 0) : Int) = y.getD j 0) → Num.covD x.reverse y.reverse = false) := Lib.hid fun j hj hb => Num.cov_bad hj hl (fun i => (hy i).1) hb
    have HOK : Hid ((∀ j, j < y.length → (Int.gcd (x.getD (x.length - y.length + j) 0) (y.getD j 0) : Int) = y.getD j 0) → Num.covD x.reverse y.reverse = true) := Lib.hid fun hb => Num.cov_ok hl (fun i => (hy i).1) hb
    have HX := Lib.hid hx
    have HY := Lib.hid hy
    clear hx hy
    go_enter Try.func48, Try.ntmps48
    go_wp2_with (fail)
    go_loopw [17] (fun s17 wr => ∃ j : Nat, s17 = .int .i64 j ∧ j ≤ y.length ∧ Hid (∀ i, i < j → (Int.gcd (x.getD (x.length - y.length + i) 0) (y.getD i 0) : Int) = y.getD i 0) ∧ Below w.heap.size w wr) (fun s17 _ => y.length - (intOf s17).toNat)
    case atStart => exact ⟨0, rfl, by omega, Lib.hid (fun i hi => by omega), Below.refl _ _⟩
    case round =>
      obtain ⟨j, rfl, hj, HP, bw⟩ := hrel
      by_cases hlt : j < y.length
      · obtain ⟨g, o, rfl, hg, hc⟩ := (HA.out.below' bw) (x.length - y.length + j) (by omega)
        obtain ⟨g', o', rfl, hg', hc'⟩ := (HB.out.below' bw) j hlt
        have j0 : (0 : Int) ≤ (j : Int) := by omega
        have j1 : (j : Int) < (y.length : Int) := by omega
        have q0 : (0 : Int) ≤ (x.length : Int) - (y.length : Int) + (j : Int) := by omega
        have q1 : (x.length : Int) - (y.length : Int) + (j : Int) < (x.length : Int) := by omega
        have q2 : ((x.length : Int) - (y.length : Int) + (j : Int)).toNat = x.length - y.length + j := by omega
        have bx := HX.out (x.length - y.length + j)
        have by_ := HY.out j
        have HS : Hid ((Int.gcd (x.getD (x.length - y.length + j) 0) (y.getD j 0) : Int) = y.getD j 0 → ∀ i, i < j + 1 → (Int.gcd (x.getD (x.length - y.length + i) 0) (y.getD i 0) : Int) = y.getD i 0) := Lib.hid fun he i hi => by
          by_cases e : i = j
          · rw [e]; exact he
          · exact HP.out i (by omega)
        have HBJ := Lib.hid (HBAD.out j hlt)
        clear HP HOK
        generalize x.getD (x.length - y.length + j) 0 = X at *
        generalize y.getD j 0 = Y at *
        have HD := Lib.hid (fun W => divisorWith_any X Y W bx.1 bx.2 by_.1 by_.2)
        by_cases he : (Int.gcd X Y : Int) = Y
        · have HP2 := Lib.hid (HS.out he)
          rw [he] at HD
          clear HS HBJ
          go_wp2_with (first | (go_simp; go_at_call 99; refine (HD.out _).mono ?_; rintro e w2 ⟨rfl, hb⟩))
          exact ⟨⟨j + 1, by go_num, by omega, HP2, bstep bw bw.size hb⟩, by simp [intOf]; omega⟩
        · have HR := Lib.hid (HBJ.out he)
          generalize (Int.gcd X Y : Int) = G at *
          have T1 : (G != Y) = true := bne_iff_ne.mpr he
          clear HS HBJ
          go_wp2_with (first | (go_simp; go_at_call 99; refine (HD.out _).mono ?_; rintro e w2 ⟨rfl, hb⟩))
          go_ret
          exact ⟨ret_b HR.out.symm, bstep bw bw.size hb⟩
      · obtain rfl : j = y.length := by omega
        have hge : ¬ ((y.length : Int) < (y.length : Int)) := by omega
        have HR := Lib.hid (HOK.out HP.out)
        go_wp2_with (fail)
        go_ret
        exact ⟨ret_b HR.out.symm, bw⟩
  · have l1 : (x.length : Int) - (y.length : Int) < 0 := by omega
    have HR := Lib.hid (Num.cov_short (c := x) (d := y) (by omega))
    go_enter Try.func48, Try.ntmps48
    go_wp2_with (fail)
    go_ret
    exact ⟨ret_b HR.out.symm, Below.refl _ _⟩
end Go.Proofs.Ytpplojbcjgiabaa
