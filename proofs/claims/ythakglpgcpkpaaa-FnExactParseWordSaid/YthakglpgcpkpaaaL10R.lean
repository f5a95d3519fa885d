/- Words: ParseWord of the model. -/
import Derived.Test.YthakglpgcpkpaaaL10Q
import Derived.Test.YthakglpgcpkpaaaL10F
namespace Go.Proofs.Ythakglpgcpkpaaa
open Go.RowKit
set_option linter.unusedVariables false
set_option linter.unusedSimpArgs false

set_option maxRecDepth 100000 in
set_option maxHeartbeats 2000000 in
theorem sParseL_any (k : Int) (s : ByteArray) (w : World) (hk : 0 ≤ k ∧ k ≤ 6) (h1 : ¬ bytesOf s = [49]) (hl : s.size ≤ 1048576) :
    Calls Try.prog 75 #[.int .i64 k, .string s] w fun e w' => ∃ v, e = .returned (.tuple #[v, .bool (Num.okT k (bytesOf s) && decide (0 < s.size))]) ∧ (Num.okT k (bytesOf s) = true → OwnI w' w.heap.size v (Num.lets (bytesOf s))) ∧ Below w.heap.size w w' := by
  obtain ⟨iT, hi, hz0, hz1, hz2⟩ := info_parts infoI
  have T1 : (s.toList == [49]) = false := by rw [text_one]; exact decide_eq_false h1
  have hsz := bytesOf_len s
  clear h1
  go_enter Try.func75, Try.ntmps75
  go_wp2_with (fail)
  clear T1
  go_loopw [6, 7] (fun s6 s7 wr => ∃ pos : Nat, s7 = .int .i64 (pos : Int) ∧ pos ≤ s.size ∧ Hid (OwnI wr w.heap.size s6 (Num.lets ((bytesOf s).take pos))) ∧ Hid (∀ i, i < pos → Num.OkL k ((bytesOf s).getD i 0)) ∧ Below w.heap.size w wr) (fun _ s7 _ => s.size - (intOf s7).toNat)
  case atStart => exact ⟨0, rfl, by omega, Lib.hid (World.ownsRow_lit w #[] 0 (Nat.le_refl _) (by unfold maxLen; omega) rfl), Lib.hid (fun i hi => by omega), by go_grown⟩
  case round =>
    obtain ⟨pos, rfl, hpos, HO, HP, bel⟩ := hrel
    have Z := bel.size
    by_cases hp : pos < s.size
    · have hb := bytesOf_at s pos hp
      have hbb : (0 : Int) ≤ (bytesOf s).getD pos 0 ∧ (bytesOf s).getD pos 0 < 256 := by
        rw [hb]
        have := (s[pos]'hp).toNat_lt
        omega
      have i0 : (0 : Int) ≤ (pos : Int) := by omega
      have i1 : (pos : Int) < (s.size : Int) := by omega
      go_wp2_with (fail)
      go_quiet (fail)
      have HST := Lib.hid (Num.lets_take (bytesOf s) pos (by rw [hsz]; exact hp))
      have HPP : Hid (Num.OkL k ((bytesOf s).getD pos 0) → ∀ i, i < pos + 1 → Num.OkL k ((bytesOf s).getD i 0)) := Lib.hid fun hok i hi => by
        rcases Nat.lt_succ_iff_lt_or_eq.mp hi with h1 | rfl
        · exact HP.out i h1
        · exact hok
      have HBAD := Lib.hid (fun (hn : ¬ Num.OkL k ((bytesOf s).getD pos 0)) => Num.okT_bad (k := k) (L := bytesOf s) (by rw [hsz]; exact hp) hn)
      have hol : (Num.lets ((bytesOf s).take pos)).length ≤ 1048576 := by unfold Num.lets; rw [List.length_map, List.length_take]; omega
      have own0 := HO.out.drewN nq
      have bel2 := below_drewN bel nq
      have Z2 : w.heap.size ≤ (wr.drewN nq).heap.size := Z
      generalize wr.drewN nq = W2 at *
      rw [hb] at HST HPP HBAD hbb
      clear hb HO HP bel Z
      generalize ((s[pos]'hp).toNat : Int) = b at *
      generalize Num.lets ((bytesOf s).take pos) = out at own0 HST hol
      rw [show b - 97 + 1 = b - 96 by omega, show b - 65 + 1 = b - 64 by omega]
      by_cases g1 : 1 ≤ b - 96 ∧ b - 96 ≤ k
      · obtain ⟨ok, el⟩ := Num.okL_small hk g1
        have HP2 := Lib.hid (HPP.out ok)
        have HIN := Lib.hid (fun W => sIn_yes (b - 96) 1 k W g1.1 g1.2)
        rw [el] at HST
        obtain ⟨A3, c3, rfl⟩ := own0.form
        clear HPP HBAD ok el
        go_wp2_with (first | (go_at_call 59; refine (HIN.out _).mono ?_; rintro e w' ⟨rfl, rfl⟩) | (at_builtin; refine wpList_append_own_at _ rfl (.tmp 36) (.tmp 38) 24 rfl w.heap.size 2 iT (.int .i64 0) 1 8 Try.underlying24 hi hz0 hz1 hz2 rfl (by decide) _ _ _ rfl (own0.alloc _) ⟨_, 0, none⟩ 1 1 [.int .i64 (b - 96)] rfl rfl (cell_one_new _ _ _) (by simp [Value.oneCell']) (by unfold maxLen; omega) (by omega) (by simp only [World.size_alloc]; omega) ?_; intro v1 w1 hown1 hgrow1 _ hat1))
        obtain ⟨p1, p2⟩ := push_post own0 bel2 hown1 hgrow1
        exact ⟨⟨pos + 1, by go_num, by omega, Lib.hid (by rw [HST.out]; exact p1), HP2, p2⟩, by simp [intOf]; omega⟩
      · have HN1 := Lib.hid (fun W => sIn_no (b - 96) 1 k W (by omega))
        by_cases g2 : 1 ≤ b - 64 ∧ b - 64 ≤ k
        · obtain ⟨ok, el⟩ := Num.okL_large hk g2
          have HP2 := Lib.hid (HPP.out ok)
          have HIN := Lib.hid (fun W => sIn_yes (b - 64) 1 k W g2.1 g2.2)
          have w9 : IntKind.i64.wrap (-(b - 64)) = -(b - 64) := IntWalk.i64_in _ (by omega)
          rw [el] at HST
          obtain ⟨A3, c3, rfl⟩ := own0.form
          clear HPP HBAD ok el
          go_wp2_with (first | (go_at_call 59; (with_reducible refine (HN1.out _).mono ?_); rintro e w' ⟨rfl, rfl⟩) | (go_at_call 59; (with_reducible refine (HIN.out _).mono ?_); rintro e w' ⟨rfl, rfl⟩) | (at_builtin; refine wpList_append_own_at _ rfl (.tmp 44) (.tmp 47) 24 rfl w.heap.size 2 iT (.int .i64 0) 1 8 Try.underlying24 hi hz0 hz1 hz2 rfl (by decide) _ _ _ rfl (own0.alloc _) ⟨_, 0, none⟩ 1 1 [.int .i64 (-(b - 64))] rfl rfl (cell_one_new _ _ _) (by simp [Value.oneCell']) (by unfold maxLen; omega) (by omega) (by simp only [World.size_alloc]; omega) ?_; intro v1 w1 hown1 hgrow1 _ hat1))
          obtain ⟨p1, p2⟩ := push_post own0 bel2 hown1 hgrow1
          exact ⟨⟨pos + 1, by go_num, by omega, Lib.hid (by rw [HST.out]; exact p1), HP2, p2⟩, by simp [intOf]; omega⟩
        · have HN2 := Lib.hid (fun W => sIn_no (b - 64) 1 k W (by omega))
          have HR := Lib.hid (HBAD.out (Num.okL_none hk g1 g2))
          clear HPP HBAD g1 g2
          go_wp2_with (first | (go_at_call 59; (with_reducible refine (HN1.out _).mono ?_); rintro e w' ⟨rfl, rfl⟩) | (go_at_call 59; (with_reducible refine (HN2.out _).mono ?_); rintro e w' ⟨rfl, rfl⟩))
          go_ret2
          rw [HR.out]
          exact ⟨_, rfl, (fun h => by cases h), bel2⟩
    · obtain rfl : pos = s.size := by omega
      have i1 : ¬ ((s.size : Int) < (s.size : Int)) := by omega
      have hall := Num.okT_yes (k := k) (L := bytesOf s) (fun j hj => HP.out j (by omega))
      rw [List.take_of_length_le (by omega)] at HO
      have hol : (Num.lets (bytesOf s)).length = s.size := by unfold Num.lets; rw [List.length_map, hsz]
      obtain ⟨A3, n3, c3, rfl, hn3⟩ := HO.out.formN
      have HB : Hid (decide ((0 : Int) < (n3 : Int)) = decide (0 < s.size)) := Lib.hid (by
        rw [Bool.eq_iff_iff, decide_eq_true_iff, decide_eq_true_iff]
        omega)
      have HALL := Lib.hid hall
      clear hall hol hn3
      go_wp2_with (fail)
      go_ret2
      rw [HALL.out]
      refine ⟨_, ?_, fun _ => HO.out, bel⟩
      have := HB.out
      simp at this ⊢
      omega
set_option maxHeartbeats 1000000 in
theorem sParse_one (k : Int) (s : ByteArray) (w : World) (h1 : bytesOf s = [49]) :
    Calls Try.prog 75 #[.int .i64 k, .string s] w fun e w' => ∃ v, e = .returned (.tuple #[v, .bool true]) ∧ OwnI w' w.heap.size v [] ∧ Below w.heap.size w w' := by
  have T1 : (s.toList == [49]) = true := by rw [text_one]; exact decide_eq_true h1
  clear h1
  go_enter Try.func75, Try.ntmps75
  go_wp2_with (fail)
  go_ret2
  exact ⟨_, rfl, World.ownsRow_lit w #[] 0 (Nat.le_refl _) (by unfold maxLen; omega) rfl, by go_grown⟩
set_option maxHeartbeats 1000000 in
theorem sParseWord_any (k : Int) (s : ByteArray) (w : World) (hl : s.size ≤ 1048576) : Calls Try.prog 46 #[.int .i64 k, .string s] w (MadeC spI (rParseWord k (bytesOf s)) (cParseWord k (bytesOf s)) w) := by
  have hsz := bytesOf_len s
  by_cases hk : 0 ≤ k ∧ k ≤ 6
  · have HIN := Lib.hid (fun W => sIn_yes k 0 6 W hk.1 hk.2)
    unfold rParseWord cParseWord
    rw [if_pos hk, if_pos hk]
    by_cases h1 : bytesOf s = [49]
    · rw [if_pos h1, if_pos h1]
      have HP := Lib.hid (sParse_one k s w h1)
      clear h1
      go_enter Try.func46, Try.ntmps46
      go_wp2_with (fail)
      refine (HIN.out _).mono ?_; rintro e w' ⟨rfl, rfl⟩
      go_wp2_with (fail)
      refine HP.out.mono ?_; rintro e w1 ⟨v, rfl, own, bel⟩
      obtain ⟨A, c, rfl⟩ := own.form
      go_wp2_with (fail)
      go_ret2
      exact MadeC.list own (by simp) bel
    · rw [if_neg h1, if_neg h1]
      have HP := Lib.hid (sParseL_any k s w hk h1 hl)
      by_cases h2 : bytesOf s = []
      · rw [if_pos h2, if_pos h2]
        have hs0 : s.size = 0 := by rw [← hsz, h2]; rfl
        have HB : Hid ((Num.okT k (bytesOf s) && decide (0 < s.size)) = false) := Lib.hid (by rw [decide_eq_false (by omega)]; simp)
        rw [HB.out] at HP
        clear h1 h2 HB hs0 hsz
        go_enter Try.func46, Try.ntmps46
        go_wp2_with (fail)
        refine (HIN.out _).mono ?_; rintro e w' ⟨rfl, rfl⟩
        go_wp2_with (fail)
        refine HP.out.mono ?_; rintro e w1 ⟨v, rfl, own, bel⟩
        go_wp2_with (fail)
        go_ret2
        exact MadeC.nilW bel
      · rw [if_neg h2, if_neg h2]
        have hs0 : 0 < s.size := by
          rcases Nat.eq_zero_or_pos s.size with h | h
          · exact absurd (List.eq_nil_of_length_eq_zero (by rw [hsz]; exact h)) h2
          · exact h
        rw [decide_eq_true hs0, Bool.and_true] at HP
        clear h1 h2
        cases hok : Num.okT k (bytesOf s) with
        | false =>
          have HR : Hid (tailC k (bytesOf s) = 6 ∧ tailR k (bytesOf s) = []) := Lib.hid (by unfold tailC tailR; rw [hok]; exact ⟨rfl, rfl⟩)
          rw [hok] at HP
          clear hok
          go_enter Try.func46, Try.ntmps46
          go_wp2_with (fail)
          refine (HIN.out _).mono ?_; rintro e w' ⟨rfl, rfl⟩
          go_wp2_with (fail)
          refine HP.out.mono ?_; rintro e w1 ⟨v, rfl, own, bel⟩
          go_wp2_with (fail)
          go_ret2
          rw [HR.out.1, HR.out.2]
          exact MadeC.nilW bel
        | true =>
          have hol : (Num.lets (bytesOf s)).length = s.size := by unfold Num.lets; rw [List.length_map, hsz]
          by_cases h64 : 64 < s.size
          · have HR : Hid (tailC k (bytesOf s) = 3 ∧ tailR k (bytesOf s) = []) := Lib.hid (by
              unfold tailC tailR
              rw [if_pos hok, if_pos hok, if_pos (by omega), if_pos (by omega)]
              exact ⟨rfl, rfl⟩)
            have k1 : (64 : Int) < ((Num.lets (bytesOf s)).length : Int) := by omega
            rw [hok] at HP
            clear hok hol
            generalize Num.lets (bytesOf s) = out at *
            go_enter Try.func46, Try.ntmps46
            go_wp2_with (fail)
            refine (HIN.out _).mono ?_; rintro e w' ⟨rfl, rfl⟩
            go_wp2_with (fail)
            refine HP.out.mono ?_; rintro e w1 ⟨v, rfl, own, bel⟩
            obtain ⟨A, c, rfl⟩ := (own (by simp)).form
            go_wp2_with (fail)
            go_ret2
            rw [HR.out.1, HR.out.2]
            exact MadeC.nilW bel
          · have HR : Hid (tailC k (bytesOf s) = 0 ∧ tailR k (bytesOf s) = Num.lets (bytesOf s)) := Lib.hid (by
              unfold tailC tailR
              rw [if_pos hok, if_pos hok, if_neg (by omega), if_neg (by omega)]
              exact ⟨rfl, rfl⟩)
            have k1 : ¬ (64 : Int) < ((Num.lets (bytesOf s)).length : Int) := by omega
            have k2 : (Num.lets (bytesOf s)).length ≤ 1000000000 := by omega
            rw [hok] at HP
            clear hok hol
            generalize Num.lets (bytesOf s) = out at *
            go_enter Try.func46, Try.ntmps46
            go_wp2_with (fail)
            refine (HIN.out _).mono ?_; rintro e w' ⟨rfl, rfl⟩
            go_wp2_with (fail)
            refine HP.out.mono ?_; rintro e w1 ⟨v, rfl, own, bel⟩
            have HO := Lib.hid (own (by simp))
            clear own
            obtain ⟨A, c, rfl⟩ := HO.out.form
            go_wp2_with (fail)
            go_ret2
            rw [HR.out.1, HR.out.2]
            exact MadeC.list HO.out k2 bel
  · have HIN := Lib.hid (fun W => sIn_no k 0 6 W (by omega))
    unfold rParseWord cParseWord
    rw [if_neg hk, if_neg hk]
    go_enter Try.func46, Try.ntmps46
    go_wp2_with (fail)
    refine (HIN.out _).mono ?_; rintro e w' ⟨rfl, rfl⟩
    go_wp2_with (fail)
    go_ret2
    exact MadeC.nilW (Below.refl _ _)
theorem iParseWord_ok (k : Int) (s : ByteArray) (w : World) (hl : s.size ≤ 1048576) : Calls Try.prog 47 #[.int .i64 k, .string s] w (MadeC spI (rParseWord k (bytesOf s)) (cParseWord k (bytesOf s)) w) := iParseWord_any k s w hl
theorem sParseWord_ok (k : Int) (s : ByteArray) (w : World) (hl : s.size ≤ 1048576) : Calls Try.prog 46 #[.int .i64 k, .string s] w (MadeC spI (rParseWord k (bytesOf s)) (cParseWord k (bytesOf s)) w) := sParseWord_any k s w hl
end Go.Proofs.Ythakglpgcpkpaaa
