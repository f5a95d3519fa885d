/- The cyclic groups of an abelian group, of the program and of the model; one chain covers another. -/
import Derived.Test.YtndldgmejmephaaL07B
import Derived.Test.YtndldgmejmephaaNumO
import Derived.Test.YtndldgmejmephaaApZ
import Derived.Maps.AppendAt
namespace Go.Proofs.Ytndldgmejmephaa
open Go.RowKit
set_option linter.unusedVariables false
set_option linter.unusedSimpArgs false

theorem infoCy : (Try.prog.info? 73).map (fun i => (i.zero, i.size, i.bytes)) = some (some (.int .i64 0), 1, 8) := by kernel_rfl
/-- A list of orders in memory of the call's own. -/
def OwnC (w : World) (base : Nat) (v : Value) (xs : List Int) : Prop := w.ownsRow base 73 1 v xs.length (xs.map (Value.int .i64))
theorem OwnC.alloc {w : World} {base : Nat} {v : Value} {xs : List Int} (h : OwnC w base v xs) (o : Obj) : OwnC (w.alloc o) base v xs := World.ownsRow.alloc h o
theorem OwnC.snoc {w : World} {base : Nat} {v : Value} {xs : List Int} {x : Int} (h : w.ownsRow base 73 1 v (xs.length + 1) (xs.map (Value.int .i64) ++ [.int .i64 x])) : OwnC w base v (xs ++ [x]) := by
  unfold OwnC
  simpa using h
theorem OwnC.base_le {w : World} {base : Nat} {v : Value} {xs : List Int} (h : OwnC w base v xs) : ∀ k, v.ownBlock = some k → base ≤ k := fun k hk => (World.ownsRow.lt h k hk).1
theorem OwnC.rd {w : World} {base : Nat} {v : Value} {xs : List Int} (h : OwnC w base v xs) : spI.rd w v xs := by
  obtain ⟨A, cap, rfl, hm⟩ := ownsRow_cap h
  exact ⟨A, cap, rfl, hm, RdI.own h⟩
set_option maxRecDepth 100000 in
set_option maxHeartbeats 1000000 in
theorem cyclicGroups_own (A : Option Addr) (c : Nat) (F : List Int) (K : Int) (w : World) (h : RdI w A F) (hl : F.length ≤ 100) (k0 : 0 ≤ K) (k1 : K ≤ 100) :
    Calls Try.prog 58 #[.slice A F.length c, .int .i64 K] w fun e w' => ∃ v, e = .returned v ∧ OwnC w' w.heap.size v (Num.chainL F K) ∧ Below w.heap.size w w' := by
  obtain ⟨i0, hi, hz0, hz1, hz2⟩ := info_parts infoCy
  have HF := Lib.hid h
  have HT0 : Hid (∀ j, j < F.length → F.take (j + 1) = F.take j ++ [F.getD j 0]) := Lib.hid fun j hj => by rw [List.take_succ_eq_append_getElem hj]; simp [hj]
  clear h
  go_enter Try.func58, Try.ntmps58
  go_wp2_with (fail)
  go_loopw [5, 10] (fun s5 s10 wr => ∃ j : Nat, s10 = .int .i64 j ∧ j ≤ F.length ∧ Hid (OwnC wr w.heap.size s5 (F.take j)) ∧ Below w.heap.size w wr) (fun _ s10 _ => F.length - (intOf s10).toNat)
  case atStart => exact ⟨0, rfl, by omega, Lib.hid (World.ownsRow_nil _ _ _ _), Below.refl _ _⟩
  case round =>
    obtain ⟨j, rfl, hj, HO, bw⟩ := hrel
    have bws := bw.size
    have HB := Lib.hid HO.out.base_le
    by_cases hlt : j < F.length
    · obtain ⟨g, o, rfl, hg, hc⟩ := (HF.out.below' bw) j hlt
      have j0 : (0 : Int) ≤ (j : Int) := by omega
      have j1 : (j : Int) < (F.length : Int) := by omega
      have EC := Lib.hid (HT0.out j hlt)
      have xl : (F.take j).length ≤ 100 := by simp; omega
      generalize F.getD j 0 = x at *
      generalize F.take j = X at *
      go_wp2_with (first | (at_builtin; refine wpList_append_own_at _ rfl (.tmp 14) (.tmp 16) 70 rfl w.heap.size 73 i0 (.int .i64 0) 1 8 Try.underlying70 hi hz0 hz1 hz2 rfl (by decide) _ _ _ rfl (HO.out.alloc _) ⟨_, 0, none⟩ 1 1 [.int .i64 x] rfl rfl (cell_one_new _ _ _) (by simp [Value.oneCell']) (by unfold maxLen; omega) (by omega) (by simp; omega) ?_; intro v3 w3 own3 gr3 _ at3))
      exact ⟨⟨j + 1, by go_num, by omega, Lib.hid (by rw [EC.out]; exact OwnC.snoc own3), (bw.alloc (by omega) _).grown gr3 (by simp; omega) HB.out⟩, by simp [intOf]; omega⟩
    · obtain rfl : j = F.length := by omega
      have hge : ¬ ((F.length : Int) < (F.length : Int)) := by omega
      have HO2 := Lib.hid (by have := HO.out; rwa [List.take_length] at this : OwnC wr w.heap.size u5 F)
      have HKN : Hid ((K.toNat : Int) = K) := Lib.hid (by omega)
      have HKL : Hid (K.toNat ≤ 100) := Lib.hid (by omega)
      obtain ⟨v3, w3, hrun, own3, gr3, at3⟩ := run_append_zeros_own (P := Try.prog) wr w.heap.size 70 2 70 73 i0 (.int .i64 0) 1 8 .i64 .i64 Try.underlying70 Try.underlying2 hi hz0 hz1 hz2 rfl (by decide) u5 F.length (F.map (Value.int .i64)) HO2.out K.toNat (fun u hu => by rw [zeros_ints] at hu; exact oneCell_ints _ u hu) (by have := HKL.out; unfold maxLen; omega) (by have := HKL.out; omega) bws
      rw [zeros_ints, ← List.map_append, HKN.out] at *
      have own4 : OwnC w3 w.heap.size v3 (Num.chainL F K) := by
        unfold OwnC
        rw [Num.chainL_len]
        exact own3
      have HRUN := Lib.hid hrun
      have HR4 := Lib.hid own4
      have HBW := Lib.hid (bw.grown gr3 bws HB.out)
      clear hrun own3 own4 gr3 at3 HO HO2
      go_wp2_with (at_builtin; refine Lib.wpList_append_run _ rfl _ _ _ _ rfl _ _ rfl rfl _ _ HRUN.out ?_)
      go_ret
      exact ⟨_, rfl, HR4.out, HBW.out⟩
theorem OwnC.lower {w : World} {base base' : Nat} {v : Value} {xs : List Int} (h : OwnC w base v xs) (hb : base' ≤ base) : OwnC w base' v xs := ownsRow_base h hb
theorem chainFor_own (v : Value) (x : Ab) (w : World) (h : spAb.rd w v x) (hk : x.ok = true) :
    Calls Try.prog 54 #[v] w fun e w' => ∃ v, e = .returned v ∧ OwnC w' w.heap.size v (Num.chainL x.F x.K) ∧ Below w.heap.size w w' := by
  obtain ⟨h1, h2, h3, -, -⟩ := Num.abB_out hk
  obtain ⟨F, K⟩ := x
  obtain ⟨_, rfl, A, c, rfl, hm, hA0⟩ := h
  replace hA0 : RdI w A F := hA0
  have b0 : Below w.heap.size w (w.alloc (.cells #[.slice A F.length c, .int .i64 K] 26)) := by go_grown
  have HC := Lib.hid (cyclicGroups_own A c F K _ (hA0.below' b0) (by have : F.length ≤ 10 := h1; omega) h2 (by have : K ≤ 10 - (F.length : Int) := h3; omega))
  clear h1 h2 h3 hk hm hA0
  go_enter Try.func54, Try.ntmps54
  go_wp2_with (fail)
  refine HC.out.mono ?_; rintro e w1 ⟨u, rfl, hr, hb⟩
  have HR := Lib.hid (hr.lower b0.size)
  have L := bstep b0 b0.size hb
  clear HC hr hb
  go_wp2_with (fail)
  go_ret
  exact ⟨_, rfl, HR.out, L⟩
theorem chainFor_any (v : Value) (x : Ab) (w : World) (h : spAb.rd w v x) (hk : x.ok = true) :
    Calls Try.prog 54 #[v] w fun e w' => ∃ v, e = .returned v ∧ spI.rd w' v (Num.chainL x.F x.K) ∧ Below w.heap.size w w' := by
  refine (chainFor_own v x w h hk).mono ?_
  rintro e w' ⟨u, rfl, ho, hb⟩
  exact ⟨u, rfl, ho.rd, hb⟩
theorem divisorWith_any (a b : Int) (w : World) (ha0 : 0 ≤ a) (ha1 : a ≤ 1000000) (hb0 : 0 ≤ b) (hb1 : b ≤ 1000000) :
    Calls Try.prog 127 #[.int .i64 a, .int .i64 b] w fun e w' => e = .returned (.int .i64 (Int.gcd a b)) ∧ Below w.heap.size w w' := by
  have HC := Lib.hid (commonDivisor_any a b w (by omega) ha1 (by omega) hb1)
  go_enter Try.func127, Try.ntmps127
  go_wp2_with (fail)
  refine HC.out.mono ?_; rintro e w1 ⟨rfl, hb⟩
  clear HC
  go_wp2_with (fail)
  go_ret
  exact ⟨rfl, hb⟩
end Go.Proofs.Ytndldgmejmephaa
