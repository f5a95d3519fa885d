/- Words: WordPower of the model. -/
import Derived.Test.YthakglpgcpkpaaaL10O
namespace Go.Proofs.Ythakglpgcpkpaaa
open Go.RowKit
set_option linter.unusedVariables false
set_option linter.unusedSimpArgs false

set_option maxRecDepth 100000 in
set_option maxHeartbeats 2000000 in
theorem sWordPower_any (k E : Int) (v : Value) (x : List Int) (w : World) (h : spI.rd w v x) : Calls Try.prog 34 #[.int .i64 k, v, .int .i64 E] w (MadeC spI (rWordPower k x E) (cWordPower k x E) w) := by
  obtain ⟨A, c, rfl, hm, hA⟩ := h
  have HC := Lib.hid (sCode_any k A none c 0 _ 0 x [] w hA rfl hm (RdI.nil _ _) rfl (by simp))
  rw [Num.codeW_pad] at HC
  by_cases hz : Num.codeW k [x] = 0
  · obtain ⟨hl, hs⟩ := word_bd hz
    by_cases he : inE E
    · have HR := Lib.hid (pow_in hz he)
      have hrl := Num.limR_len (Num.powL (baseW x E) E.natAbs)
      obtain ⟨e1, e2⟩ := he
      have HIN := Lib.hid (fun W => sIn_yes E (-64) 64 W e1 e2)
      have HO := Lib.hid (sOwnI_any A _ c x w hA rfl (by omega))
      have HA := Lib.hid hA
      rw [hz] at HC
      by_cases hn : E < 0
      · obtain ⟨m, hm2⟩ : ∃ m : Nat, E = -(m : Int) := ⟨E.natAbs, by omega⟩
        subst hm2
        have hm64 : m ≤ 64 := by omega
        have hb : baseW x (-(m : Int)) = Num.invW x := if_pos hn
        rw [hb, show (-(m : Int)).natAbs = m by omega] at HR hrl
        have w1 : IntKind.i64.wrap (-(-(m : Int))) = (m : Int) := by rw [show -(-(m : Int)) = (m : Int) by omega]; exact IntWalk.i64_in _ (by omega)
        have w2 : IntKind.i64.wrap (m : Int) = (m : Int) := IntWalk.i64_in _ (by omega)
        clear hz hA e1 e2 hb hm
        go_enter Try.func34, Try.ntmps34
        go_wp2_with (fail)
        refine HC.out.mono ?_; rintro e w' ⟨rfl, rfl⟩
        go_wp2_with (fail)
        refine (HIN.out _).mono ?_; rintro e w' ⟨rfl, rfl⟩
        go_wp2_with (fail)
        refine HO.out.mono ?_; rintro e w3 ⟨u, rfl, own3, bw3⟩
        have HI := Lib.hid (sInvert_any A x.length c x w3 (HA.out.below' bw3) rfl (by omega) hs)
        clear HO HC HIN own3
        go_wp2_with (fail)
        refine HI.out.mono ?_; rintro e w4 ⟨u4, rfl, own4, bel4⟩
        have bw4 : Below w.heap.size w w4 := bstep bw3 bw3.size bel4
        obtain ⟨U, cU, rfl⟩ := own4.form
        have hy : (Num.invW x).length ≤ 64 := by rw [Num.invW_len]; exact hl
        have hys : Num.SmallW (Num.invW x) := hs.inv
        have HRY := Lib.hid own4.reads
        generalize Num.invW x = y at *
        clear HI own4 bel4
        have Z4 := bw4.size
        go_wp2_with (fail)
        go_loopw [10, 11] (fun s10 s11 wr => ∃ i : Nat, s11 = .int .i64 (i : Int) ∧ i ≤ m ∧ OwnI wr w4.heap.size s10 (Num.powL y i) ∧ Below w4.heap.size w4 wr) (fun _ s11 _ => m - (intOf s11).toNat)
        case atStart => exact ⟨0, rfl, by omega, World.ownsRow_lit w4 #[] 0 (Nat.le_refl _) (by unfold maxLen; omega) rfl, by go_grown⟩
        case round =>
          obtain ⟨i, rfl, hi', own, bel⟩ := hrel
          have Z := bel.size
          by_cases hlt : i < m
          · have i0 : (i : Int) < (m : Int) := by omega
            have HST := Lib.hid (Num.powL_succ y i)
            have hol := Num.powL_len y i
            have hmul : i * y.length ≤ 64 * 64 := Nat.mul_le_mul (by omega) hy
            have hol2 : (Num.powL y i).length ≤ 4096 := by omega
            clear hol hmul
            have hrd := HRY.out.below' bel
            generalize Num.powL y i = out at *
            obtain ⟨A3, c3, rfl⟩ := own.form
            go_wp2_with (at_builtin; refine wpList_app_ints _ rfl (.tmp 35) (.tmp 36) rfl w4.heap.size _ out y rfl own U _ cU rfl rfl hrd (by omega) Z ?_; intro v6 w6 own6 gr6 hat6)
            exact ⟨⟨i + 1, by go_num, by omega, by rw [HST.out]; exact own6, bel.grown gr6 Z (fun k hk => (World.ownsRow.lt own k hk).1)⟩, by simp [intOf]; omega⟩
          · obtain rfl : i = m := by omega
            have i0 : ¬ (i : Int) < (i : Int) := by omega
            have hol := Num.powL_len y i
            have hmul : i * y.length ≤ 64 * 64 := Nat.mul_le_mul (by omega) hy
            have hol2 : (Num.powL y i).length ≤ 1000000 := by omega
            have hps : Num.SmallW (Num.powL y i) := Num.SmallW.flat (fun f hf => by rw [List.eq_of_mem_replicate hf]; exact hys)
            obtain ⟨A3, n3, c3, rfl, hn3⟩ := own.formN
            have HP := Lib.hid (sResult_any A3 n3 c3 (Num.powL y i) wr own.reads hn3 hol2 hps)
            clear hol hmul hn3
            go_wp2_with (fail)
            refine HP.out.mono ?_; intro e w7 hh
            obtain ⟨r, rfl, ownr, belr⟩ := hh.up (bw4.trans (bel.mono Z4))
            go_wp2_with (fail)
            go_ret2
            rw [HR.out.1, HR.out.2]
            exact MadeC.list ownr (by omega) belr
      · obtain ⟨m, hm2⟩ : ∃ m : Nat, E = (m : Int) := ⟨E.natAbs, by omega⟩
        subst hm2
        have hm64 : m ≤ 64 := by omega
        have hb : baseW x (m : Int) = x := if_neg hn
        rw [hb, show (m : Int).natAbs = m by omega] at HR hrl
        have w2 : IntKind.i64.wrap (m : Int) = (m : Int) := IntWalk.i64_in _ (by omega)
        clear hz hA e1 e2 hb hm
        go_enter Try.func34, Try.ntmps34
        go_wp2_with (fail)
        refine HC.out.mono ?_; rintro e w' ⟨rfl, rfl⟩
        go_wp2_with (fail)
        refine (HIN.out _).mono ?_; rintro e w' ⟨rfl, rfl⟩
        go_wp2_with (fail)
        refine HO.out.mono ?_; rintro e w4 ⟨u4, rfl, own4, bw4⟩
        obtain ⟨U, cU, rfl⟩ := own4.form
        have HRY := Lib.hid own4.reads
        clear HO HC HIN HA own4
        generalize x = y at *
        have Z4 := bw4.size
        go_wp2_with (fail)
        go_loopw [10, 11] (fun s10 s11 wr => ∃ i : Nat, s11 = .int .i64 (i : Int) ∧ i ≤ m ∧ OwnI wr w4.heap.size s10 (Num.powL y i) ∧ Below w4.heap.size w4 wr) (fun _ s11 _ => m - (intOf s11).toNat)
        case atStart => exact ⟨0, rfl, by omega, World.ownsRow_lit w4 #[] 0 (Nat.le_refl _) (by unfold maxLen; omega) rfl, by go_grown⟩
        case round =>
          obtain ⟨i, rfl, hi', own, bel⟩ := hrel
          have Z := bel.size
          by_cases hlt : i < m
          · have i0 : (i : Int) < (m : Int) := by omega
            have HST := Lib.hid (Num.powL_succ y i)
            have hol := Num.powL_len y i
            have hmul : i * y.length ≤ 64 * 64 := Nat.mul_le_mul (by omega) hl
            have hol2 : (Num.powL y i).length ≤ 4096 := by omega
            clear hol hmul
            have hrd := HRY.out.below' bel
            generalize Num.powL y i = out at *
            obtain ⟨A3, c3, rfl⟩ := own.form
            go_wp2_with (at_builtin; refine wpList_app_ints _ rfl (.tmp 35) (.tmp 36) rfl w4.heap.size _ out y rfl own U _ cU rfl rfl hrd (by omega) Z ?_; intro v6 w6 own6 gr6 hat6)
            exact ⟨⟨i + 1, by go_num, by omega, by rw [HST.out]; exact own6, bel.grown gr6 Z (fun k hk => (World.ownsRow.lt own k hk).1)⟩, by simp [intOf]; omega⟩
          · obtain rfl : i = m := by omega
            have i0 : ¬ (i : Int) < (i : Int) := by omega
            have hol := Num.powL_len y i
            have hmul : i * y.length ≤ 64 * 64 := Nat.mul_le_mul (by omega) hl
            have hol2 : (Num.powL y i).length ≤ 1000000 := by omega
            have hps : Num.SmallW (Num.powL y i) := Num.SmallW.flat (fun f hf => by rw [List.eq_of_mem_replicate hf]; exact hs)
            obtain ⟨A3, n3, c3, rfl, hn3⟩ := own.formN
            have HP := Lib.hid (sResult_any A3 n3 c3 (Num.powL y i) wr own.reads hn3 hol2 hps)
            clear hol hmul hn3
            go_wp2_with (fail)
            refine HP.out.mono ?_; intro e w7 hh
            obtain ⟨r, rfl, ownr, belr⟩ := hh.up (bw4.trans (bel.mono Z4))
            go_wp2_with (fail)
            go_ret2
            rw [HR.out.1, HR.out.2]
            exact MadeC.list ownr (by omega) belr
    · have HR := Lib.hid (pow_out hz he)
      rw [hz] at HC
      have HIN := Lib.hid (fun W => sIn_no E (-64) 64 W (by unfold inE at he; omega))
      clear hz hA he hm
      go_enter Try.func34, Try.ntmps34
      go_wp2_with (fail)
      refine HC.out.mono ?_; rintro e w' ⟨rfl, rfl⟩
      go_wp2_with (fail)
      refine (HIN.out _).mono ?_; rintro e w' ⟨rfl, rfl⟩
      go_wp2_with (fail)
      go_ret2
      rw [HR.out.1, HR.out.2]
      exact MadeC.nilW (Below.refl _ _)
  · have HR := Lib.hid (pow_bad (e := E) hz)
    have T1 : (Num.codeW k [x] != 0) = true := by simpa using hz
    clear hz hA hm
    generalize Num.codeW k [x] = cd at *
    go_enter Try.func34, Try.ntmps34
    go_wp2_with (fail)
    refine HC.out.mono ?_; rintro e w' ⟨rfl, rfl⟩
    go_wp2_with (fail)
    go_ret2
    rw [HR.out.1, HR.out.2]
    exact MadeC.nilW (Below.refl _ _)
theorem iWordPower_ok (k : Int) (v : Value) (x : List Int) (E : Int) (w : World) (h : spI.rd w v x) (s : spI.sz x ≤ 1048576) : Calls Try.prog 35 #[.int .i64 k, v, .int .i64 E] w (MadeC spI (rWordPower k x E) (cWordPower k x E) w) := iWordPower_any k E v x w h
theorem sWordPower_ok (k : Int) (v : Value) (x : List Int) (E : Int) (w : World) (h : spI.rd w v x) (s : spI.sz x ≤ 1048576) : Calls Try.prog 34 #[.int .i64 k, v, .int .i64 E] w (MadeC spI (rWordPower k x E) (cWordPower k x E) w) := sWordPower_any k E v x w h
end Go.Proofs.Ythakglpgcpkpaaa
