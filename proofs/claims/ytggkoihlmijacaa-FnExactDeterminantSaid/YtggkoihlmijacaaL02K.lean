/- The model's products of a vector and rows. -/
import Derived.Test.YtggkoihlmijacaaL02I
import Derived.BigRegion
namespace Go.Proofs.Ytggkoihlmijacaa
open Go.RowKit
set_option linter.unusedVariables false
set_option linter.unusedSimpArgs false

theorem Num.vec_timesTo {p : Int} (hp : 0 < p) (v : List Int) (rows : List (List Int)) (n i : Nat) : Num.Vec p n (Num.timesTo p v rows n i) := by
  induction i with
  | zero => exact Num.Vec.zeros hp n
  | succ i ih => exact Num.Vec.add hp ih.len
set_option maxRecDepth 100000 in
set_option maxHeartbeats 2000000 in
theorem sTimes_any (p : Int) (v rv : Value) (xs : List Int) (rows : List (List Int)) (n m : Nat) (w : World) (hr : spII.rd w rv rows) (h : spI.rd w v xs) (hp1 : 2 ≤ p) (hp2 : p ≤ 7) (hrv : ∀ i, i < rows.length → Num.Vec p n (rows.getD i [])) (hx : Num.Vec p m xs) (hm : rows.length = m) (hn : n ≤ 1000) (hml : m ≤ 1000) :
    Calls Try.prog 108 #[.int .i64 p, v, rv, .int .i64 n] w (Made spI (Num.timesV p xs rows n) w) := by
  obtain ⟨i0, hi, hz0, hz1, hz2⟩ := info_parts infoI
  have hr0 := hr
  obtain ⟨A, cA, rfl, -, -⟩ := hr0
  obtain ⟨B, cB, rfl, -, -⟩ := spI_form h
  have hxl := hx.len
  have HR := Lib.hid hr
  have HI := Lib.hid h
  have HRV := Lib.hid hrv
  have HX := Lib.hid hx
  have hlen : xs.length ≤ 1000 := by omega
  have HXL : Hid (xs.length = rows.length) := Lib.hid (by omega)
  clear hr h hrv hx hxl hm hml
  go_enter Try.func108, Try.ntmps108
  go_wp2_with (refine wpList_make_full _ rfl (.tmp 12) (.tmp 12) 31 rfl w.heap.size 2 i0 (.int .i64 0) 1 Try.underlying31 hi hz0 hz1 .i64 .i64 (n : Int) (n : Int) n rfl rfl rfl rfl (by rw [hz2]; omega) (by unfold maxLen; omega) (Nat.le_refl _) ?_; intro w1 own1 gr1)
  have b1 : Below w.heap.size w w1 := (Below.refl _ _).grown gr1 (Nat.le_refl _) (fun k hk => by simp at hk)
  have o1 : OwnI w1 w.heap.size (.slice (some ⟨w.heap.size, 0, none⟩) n n) (Num.zeroV n) := made_zeros own1
  obtain ⟨S, hS, s1⟩ : ∃ S : Nat → Prop, (∀ k, S k → w.heap.size ≤ k) ∧ spI.own w1 S (.slice (some ⟨w.heap.size, 0, none⟩) n n) (Num.zeroV n) := ⟨_, fun k hk => (World.ownsRow.lt o1 k hk).1, spI_of o1⟩
  have HS := Lib.hid hS
  have HO := Lib.hid s1
  have HT : Hid (Num.timesTo p xs rows n 0 = Num.zeroV n) := Lib.hid rfl
  clear own1 gr1 o1 s1
  go_wp2_with (fail)
  go_loopw [10] (fun s wr => ∃ i : Nat, s = .int .i64 i ∧ i ≤ rows.length ∧ Hid (spI.own wr S (.slice (some ⟨w.heap.size, 0, none⟩) n n) (Num.timesTo p xs rows n i)) ∧ Below w.heap.size w wr) (fun s _ => rows.length - (intOf s).toNat)
  case atStart => exact ⟨0, rfl, by omega, HO, b1⟩
  case round =>
    obtain ⟨i, rfl, hi', own, bel⟩ := hrel
    clear HO HT
    by_cases hlt : i < rows.length
    · have i0' : (0 : Int) ≤ (i : Int) := by omega
      have i1 : (i : Int) < (xs.length : Int) := by have := HXL.out; omega
      have i2 : (i : Int) < (rows.length : Int) := by omega
      have hT := Num.vec_timesTo (p := p) (by omega) xs rows n i
      have hTl := hT.len
      have eT : Num.timesTo p xs rows n (i + 1) = Num.addV p (xs.getD i 0) (Num.timesTo p xs rows n i) (rows.getD i []) := rfl
      have V := HRV.out i hlt
      have HXV : Hid (0 ≤ xs.getD i 0 ∧ xs.getD i 0 < p) := Lib.hid ⟨HX.out.lo i, HX.out.hi i⟩
      have HTV := Lib.hid hT
      have HVV := Lib.hid V
      have H0 := Lib.hid (Num.upto_zero (Num.addF p (xs.getD i 0) (Num.timesTo p xs rows n i) (rows.getD i [])) (Num.timesTo p xs rows n i))
      have HA : Hid (Num.upto (Num.addF p (xs.getD i 0) (Num.timesTo p xs rows n i) (rows.getD i [])) (Num.timesTo p xs rows n i) n = Num.timesTo p xs rows n (i + 1)) := Lib.hid (by rw [eT]; unfold Num.addV; rw [← Num.upto_all, hTl])
      have HTL := Lib.hid hTl
      have HVL := Lib.hid V.len
      clear hT V eT hTl
      go_wp2_with (fail)
      go_loopw [11] (fun s w2 => ∃ j : Nat, s = .int .i64 j ∧ j ≤ n ∧ Hid (spI.own w2 S (.slice (some ⟨w.heap.size, 0, none⟩) n n) (Num.upto (Num.addF p (xs.getD i 0) (Num.timesTo p xs rows n i) (rows.getD i [])) (Num.timesTo p xs rows n i) j)) ∧ Below w.heap.size w w2) (fun s _ => n - (intOf s).toNat)
      case atStart => exact ⟨0, rfl, by omega, Lib.hid (by rw [H0.out]; exact own.out), bel⟩
      case round =>
        obtain ⟨j, rfl, hj, own2, bel2⟩ := hrel
        clear H0
        by_cases hjt : j < n
        · obtain ⟨g, o, u, rfl, hg, hc, hru⟩ := spL_row (spII.rd_below HR.out bel2) hlt
          obtain ⟨C, cC, rfl, -, -⟩ := spI_form hru
          obtain ⟨gv, ov, rfl, hgv, hcv⟩ := spI_at (spI.rd_below HI.out bel2) (j := i) (by have := HXL.out; omega)
          obtain ⟨gr, or, rfl, hgr, hcr⟩ := spI_at hru (j := j) (by have := HVL.out; omega)
          have hjl : j < (Num.timesTo p xs rows n i).length := by have := HTL.out; omega
          have hul := Num.upto_length (Num.addF p (xs.getD i 0) (Num.timesTo p xs rows n i) (rows.getD i [])) (Num.timesTo p xs rows n i) j
          have hgt := Num.upto_get (Num.addF p (xs.getD i 0) (Num.timesTo p xs rows n i) (rows.getD i [])) (Num.timesTo p xs rows n i) hjl
          obtain ⟨g0, c0, e0, hS0, hg0, a0, f0⟩ := spI_own_at own2.out (j := j) (by omega)
          simp only [Value.slice.injEq] at e0
          obtain ⟨e0, -, -⟩ := e0
          obtain rfl : w.heap.size = g0 := by simpa using e0
          rw [hgt] at a0
          have HST : Hid ((Num.upto (Num.addF p (xs.getD i 0) (Num.timesTo p xs rows n i) (rows.getD i [])) (Num.timesTo p xs rows n i) j).set j (((Num.timesTo p xs rows n i).getD j 0 + xs.getD i 0 * (rows.getD i []).getD j 0) % p) = _) := Lib.hid (Num.upto_step (Num.addF p (xs.getD i 0) (Num.timesTo p xs rows n i) (rows.getD i [])) (Num.timesTo p xs rows n i) hjl)
          have HUL : Hid (j < (Num.upto (Num.addF p (xs.getD i 0) (Num.timesTo p xs rows n i) (rows.getD i [])) (Num.timesTo p xs rows n i) j).length) := Lib.hid (by omega)
          have j0 : (0 : Int) ≤ (j : Int) := by omega
          have j1 : (j : Int) < (n : Int) := by omega
          have j2 : (j : Int) < ((rows.getD i []).length : Int) := by have := HVL.out; omega
          have x0 := HTV.out.lo j
          have x1 := HTV.out.hi j
          have cy := cy_bd HXV.out.1 (by have := HXV.out.2; omega) (HVV.out.lo j) (HVV.out.hi j) hp2
          clear e0 hjl hul hgt hru
          generalize (Num.timesTo p xs rows n i).getD j 0 = x at *
          generalize hz : xs.getD i 0 = z at *
          have HZ := Lib.hid hz
          clear hz
          generalize (rows.getD i []).getD j 0 = y at *
          generalize (rows.getD i []).length = ln at *
          have wr1 : IntKind.i64.wrap (z * y) = z * y := IntWalk.i64_in _ (by omega)
          have wr2 : IntKind.i64.wrap (x + z * y) = x + z * y := IntWalk.i64_in _ (by omega)
          have tm : (x + z * y).tmod p = (x + z * y) % p := Int.tmod_eq_emod_of_nonneg (by omega)
          have md := Num.mod_bd (x + z * y) (m := p) (by omega)
          have wr3 : IntKind.i64.wrap ((x + z * y) % p) = (x + z * y) % p := IntWalk.i64_in _ (by omega)
          have pne : p ≠ 0 := by omega
          go_wp2_with (fail)
          go_region
          all_goals
            have O3 := spI_set (spI.own_drew own2.out) HUL.out ((x + z * y) % p)
            rw [HST.out] at O3
            have L3 := below_set bel2.drew (Nat.le_refl w.heap.size) j (.int .i64 ((x + z * y) % p))
            have HO3 := Lib.hid O3
            clear O3
            go_wp2_with (fail)
            exact ⟨⟨j + 1, by go_num, by omega, HO3, L3⟩, by simp [intOf]; omega⟩
        · have hge : ¬ ((j : Int) < (n : Int)) := by omega
          obtain rfl : j = n := by omega
          rw [HA.out] at own2
          go_wp2_with (fail)
          exact ⟨⟨i + 1, by go_num, by omega, own2, bel2⟩, by simp [intOf]; omega⟩
    · obtain rfl : i = rows.length := by omega
      have hge : ¬ ((rows.length : Int) < (xs.length : Int)) := by have := HXL.out; omega
      go_wp2_with (fail)
      go_ret
      exact Made.of rfl own.out HS.out bel
end Go.Proofs.Ytggkoihlmijacaa
