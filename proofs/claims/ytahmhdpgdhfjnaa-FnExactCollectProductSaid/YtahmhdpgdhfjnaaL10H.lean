/- Words: ExponentSums. -/
import Derived.Test.YtahmhdpgdhfjnaaL10F
import Derived.RegionTactic
import Derived.BigRegion
namespace Go.Proofs.Ytahmhdpgdhfjnaa
open Go.RowKit
set_option linter.unusedVariables false
set_option linter.unusedSimpArgs false

theorem Num.incS_pos {acc : List Int} {x : Int} (h : 0 < x) : Num.incS acc x = acc.set (x - 1).toNat (acc.getD (x - 1).toNat 0 + 1) := if_pos h
theorem Num.incS_neg {acc : List Int} {x : Int} (h : ¬ 0 < x) : Num.incS acc x = acc.set (-x - 1).toNat (acc.getD (-x - 1).toNat 0 - 1) := if_neg h
theorem Num.isWB_at {k : Int} {w : List Int} (h : Num.isWB k w = true) {j : Nat} (hj : j < w.length) : w.getD j 0 ≠ 0 ∧ -k ≤ w.getD j 0 ∧ w.getD j 0 ≤ k := by
  rw [List.getD_eq_getElem?_getD, List.getElem?_eq_getElem hj]
  exact (Num.isWB_iff.mp h).2 _ (List.getElem_mem hj)

theorem madeW_zeros {w w1 : World} {n : Nat} (own1 : w1.ownsRow w.heap.size 2 1 (.slice (some ⟨w.heap.size, 0, none⟩) n n) n (madeCells (Value.int .i64 0).cells (n * 1)).toList) :
    OwnI w1 w.heap.size (.slice (some ⟨w.heap.size, 0, none⟩) n n) (List.replicate n 0) := by
  unfold OwnI
  have e : (madeCells (Value.int .i64 0).cells (n * 1)).toList = (List.replicate n (0 : Int)).map (Value.int .i64) := by
    show (madeCells #[Value.int .i64 0] (n * 1)).toList = _
    rw [toList_madeCells_one]
    simp
  rw [e] at own1
  simpa using own1
theorem signOf_pos (a : Int) (w : World) (h : 0 < a) : Calls Try.prog 153 #[.int .i64 a] w fun e w' => e = .returned (.int .i64 1) ∧ w = w' := by
  have := signOf_any a w
  rwa [show Num.sg a = 1 by unfold Num.sg; rw [if_pos h]] at this
theorem signOf_neg (a : Int) (w : World) (h : a < 0) : Calls Try.prog 153 #[.int .i64 a] w fun e w' => e = .returned (.int .i64 (-1)) ∧ w = w' := by
  have := signOf_any a w
  rwa [show Num.sg a = -1 by unfold Num.sg; rw [if_neg (by omega), if_pos h]] at this
set_option maxRecDepth 100000 in
set_option maxHeartbeats 1000000 in
theorem iExponentSums_any (k : Int) (v : Value) (x : List Int) (w : World) (h : spI.rd w v x) : Calls Try.prog 129 #[.int .i64 k, v] w (MadeC spI (rExponentSums k x) (cExponentSums k x) w) := by
  obtain ⟨iT, hi, hz0, hz1, hz2⟩ := info_parts infoI
  obtain ⟨A, c, rfl, hm, hA⟩ := h
  have b0 : Below w.heap.size w (w.alloc (.cells #[.slice A x.length c] 24)) := by go_grown
  have HC := Lib.hid (codes_one k A c x w hA hm)
  by_cases hz : Num.codeW k [x] = 0
  · obtain ⟨hl, hs⟩ := word_bd hz
    have hk := (Num.codeW_zero hz).1
    have hw := (Num.codeW_zero hz).2 x (by simp)
    have HR : Hid (rExponentSums k x = Num.sumW k x ∧ cExponentSums k x = 0) := Lib.hid ⟨if_pos hz, hz⟩
    rw [hz] at HC
    clear hz
    obtain ⟨K, rfl⟩ := Int.eq_ofNat_of_zero_le hk.1
    have hK : K ≤ 6 := by omega
    have HS : Hid (Num.sumW (K : Int) x = Num.sumF (List.replicate K 0) x) := Lib.hid (by unfold Num.sumW; simp)
    have hA0 := Lib.hid (hA.below' b0)
    clear hk hA
    go_enter Try.func129, Try.ntmps129
    go_wp2_with (fail)
    refine HC.out.mono ?_; rintro e w' ⟨rfl, rfl⟩
    clear HC
    obtain ⟨W0, hW0⟩ : ∃ W0, w.alloc (.cells #[.slice A x.length c] 24) = W0 := ⟨_, rfl⟩
    rw [hW0] at b0 hA0 ⊢
    clear hW0
    have Z0 := b0.size
    go_wp2_with (refine wpList_make_full _ rfl (.tmp 18) (.tmp 18) 24 rfl W0.heap.size 2 iT (.int .i64 0) 1 Try.underlying24 hi hz0 hz1 .i64 .i64 (K : Int) (K : Int) K rfl rfl rfl rfl (by rw [hz2]; omega) (by unfold maxLen; omega) (Nat.le_refl _) ?_; intro w1 own1 gr1)
    have bW : Below W0.heap.size W0 w1 := (Below.refl _ _).grown gr1 (Nat.le_refl _) (fun k hk => by simp at hk)
    have o1 := (madeW_zeros own1)
    have b1 : Below w.heap.size w w1 := bstep b0 Z0 bW
    have hA1 := Lib.hid (hA0.out.below' bW)
    clear own1 gr1
    go_wp2_with (fail)
    go_loopw [22] (fun s wr => ∃ j : Nat, s = .int .i64 j ∧ j ≤ x.length ∧ OwnI wr W0.heap.size (.slice (some ⟨W0.heap.size, 0, none⟩) K K) (Num.sumF (List.replicate K 0) (x.take j)) ∧ Below W0.heap.size W0 wr) (fun s _ => x.length - (intOf s).toNat)
    case atStart => exact ⟨0, rfl, by omega, o1, bW⟩
    case round =>
      obtain ⟨j, rfl, hj, own, bel⟩ := hrel
      clear o1 hA1
      by_cases hlt : j < x.length
      · obtain ⟨g, o, rfl, hg, hc⟩ := (hA0.out.below' bel) j hlt
        have j0 : (0 : Int) ≤ (j : Int) := by omega
        have j1 : (j : Int) < (x.length : Int) := by omega
        have HST := Lib.hid (Num.sumF_step (List.replicate K 0) x j hlt)
        obtain ⟨y1, y2, y3⟩ := Num.isWB_at hw hlt
        have hbd := (Num.BdS.zero K).sum x j hj
        have hal := Num.sumF_len (List.replicate K 0) (x.take j)
        rw [List.length_replicate] at hal
        generalize x.getD j 0 = y at *
        generalize Num.sumF (List.replicate K 0) (x.take j) = acc at *
        rcases Int.lt_or_gt_of_ne y1 with hn | hp
        · have hat := own.at_ (-y - 1).toNat (by omega)
          have hb1 := hbd (-y - 1).toNat (by omega)
          rw [Num.incS_neg (by omega)] at HST
          have q0 : (0 : Int) ≤ -y - 1 := by omega
          have q1 : -y - 1 < (K : Int) := by omega
          have w2 : IntKind.i64.wrap (y * -1) = -y := by rw [show y * -1 = -y by omega]; exact IntWalk.i64_in _ (by omega)
          have w2' : IntKind.i64.wrap (-y) = -y := IntWalk.i64_in _ (by omega)
          have w3 : IntKind.i64.wrap (-y - 1) = -y - 1 := IntWalk.i64_in _ (by omega)
          have HSG := Lib.hid (fun W => signOf_neg y W hn)
          obtain ⟨a0, f0⟩ := hat
          generalize hq : (-y - 1).toNat = q at *
          have hq2 : (-y).toNat - 1 = q := by omega
          generalize acc.getD q 0 = z at *
          have w4 : IntKind.i64.wrap (z + -1) = z - 1 := by rw [show z + -1 = z - 1 by omega]; exact IntWalk.i64_in _ (by omega)
          have w4' : IntKind.i64.wrap (z - 1) = z - 1 := IntWalk.i64_in _ (by omega)
          have O3 := own.set q (z - 1)
          rw [← HST.out] at O3
          have L3 := bel.setCell (p := ⟨W0.heap.size, q, none⟩) (by simp) (.int .i64 (z - 1))
          clear hbd
          go_wp2_with (go_at_call 153; refine (HSG.out _).mono ?_; rintro e w' ⟨rfl, rfl⟩)
          exact ⟨⟨j + 1, by go_num, by omega, O3, L3⟩, by simp [intOf]; omega⟩
        · have hat := own.at_ (y - 1).toNat (by omega)
          have hb1 := hbd (y - 1).toNat (by omega)
          rw [Num.incS_pos (by omega)] at HST
          have q0 : (0 : Int) ≤ y - 1 := by omega
          have q1 : y - 1 < (K : Int) := by omega
          have w2 : IntKind.i64.wrap y = y := IntWalk.i64_in _ (by omega)
          have w3 : IntKind.i64.wrap (y - 1) = y - 1 := IntWalk.i64_in _ (by omega)
          have HSG := Lib.hid (fun W => signOf_pos y W hp)
          obtain ⟨a0, f0⟩ := hat
          generalize hq : (y - 1).toNat = q at *
          have hq2 : y.toNat - 1 = q := by omega
          generalize acc.getD q 0 = z at *
          have w4 : IntKind.i64.wrap (z + 1) = z + 1 := IntWalk.i64_in _ (by omega)
          have O3 := own.set q (z + 1)
          rw [← HST.out] at O3
          have L3 := bel.setCell (p := ⟨W0.heap.size, q, none⟩) (by simp) (.int .i64 (z + 1))
          clear hbd
          go_wp2_with (go_at_call 153; refine (HSG.out _).mono ?_; rintro e w' ⟨rfl, rfl⟩)
          exact ⟨⟨j + 1, by go_num, by omega, O3, L3⟩, by simp [intOf]; omega⟩
      · have hge : ¬ ((j : Int) < (x.length : Int)) := by omega
        obtain rfl : j = x.length := by omega
        rw [List.take_length, ← HS.out] at own
        have hrl : (Num.sumW (K : Int) x).length ≤ 1000000000 := by rw [HS.out, Num.sumF_len, List.length_replicate]; omega
        go_wp2_with (fail)
        go_ret2
        rw [HR.out.1, HR.out.2]
        exact MadeC.list (own.base_ Z0) hrl (bstep b0 Z0 bel)
  · have HR : Hid (rExponentSums k x = [] ∧ cExponentSums k x = Num.codeW k [x]) := Lib.hid ⟨if_neg hz, rfl⟩
    have T1 : (Num.codeW k [x] != 0) = true := by simpa using hz
    clear hz hA
    generalize Num.codeW k [x] = cd at *
    go_enter Try.func129, Try.ntmps129
    go_wp2_with (fail)
    refine HC.out.mono ?_; rintro e w' ⟨rfl, rfl⟩
    go_wp2_with (fail)
    go_ret2
    rw [HR.out.1, HR.out.2]
    exact MadeC.nilW b0
theorem iExponentSums_ok (k : Int) (v : Value) (x : List Int) (w : World) (h : spI.rd w v x) (s : spI.sz x ≤ 1048576) : Calls Try.prog 129 #[.int .i64 k, v] w (MadeC spI (rExponentSums k x) (cExponentSums k x) w) := iExponentSums_any k v x w h
end Go.Proofs.Ytahmhdpgdhfjnaa
