/- Words: SubstituteWord of the model. -/
import Derived.Test.YtpplojbcjgiabaaL10J
import Derived.Test.YtpplojbcjgiabaaL10K
import Derived.Test.YtpplojbcjgiabaaL10L
namespace Go.Proofs.Ytpplojbcjgiabaa
open Go.RowKit
set_option linter.unusedVariables false
set_option linter.unusedSimpArgs false

set_option maxRecDepth 100000 in
set_option maxHeartbeats 2000000 in
theorem sSubst_long (k m : Int) (A C : Option Addr) (c d : Nat) (x : List Int) (imgs : List (List Int)) (w : World) (hA : RdI w A x) (hC : RdW w C imgs) (h : (0 ≤ k ∧ k ≤ 6) ∧ 0 ≤ m ∧ m ≤ 6) (hb : Num.isWB k x = true) (hk : (imgs.length : Int) = k) :
    Calls Try.prog 9 #[.int .i64 k, .slice A x.length c, .int .i64 m, .slice C imgs.length d] w (MadeC spI (rSubstituteWord k x m imgs) (cSubstituteWord k x m imgs) w) := by
  have hx := (Num.isWB_iff.mp hb).1
  have HS := Lib.hid (fun ha => sReplace_any k m A C c d x imgs w hA hC h ⟨hb, hk, ha⟩)
  have HG := Lib.hid (fun ha => sub_good h ⟨hb, hk, ha⟩)
  have HBAD := Lib.hid (fun (ha : ¬ imgs.all (Num.isWB m) = true) => sub_bad h (fun hh => ha hh.2.2 : ¬ (Num.isWB k x = true ∧ (imgs.length : Int) = k ∧ imgs.all (Num.isWB m) = true)))
  have HB2 := Lib.hid (fun ha => imgs_bd (m := m) (imgs := imgs) h.2 ha)
  have HSM := Lib.hid (fun (ha : imgs.all (Num.isWB m) = true) => SmallW_rep hk hb h.2 ha)
  obtain ⟨h1, h2⟩ := h
  have hw := sWordB_any k A c x w hA (by unfold maxLen; omega) h1
  rw [hb] at hw
  have HW := Lib.hid hw
  have hi6 : imgs.length ≤ 6 := by omega
  have T1 : ((imgs.length : Int) != k) = false := by simp [hk]
  have HC := Lib.hid hC
  clear hw hb hA hC hk
  go_enter Try.func9, Try.ntmps9
  go_wp2_with (first | (go_at_call 32; (with_reducible refine (sIn_yes k 0 6 _ h1.1 h1.2).mono ?_); rintro e w' ⟨rfl, rfl⟩) | (go_at_call 32; (with_reducible refine (sIn_yes m 0 6 _ h2.1 h2.2).mono ?_); rintro e w' ⟨rfl, rfl⟩) | (go_at_call 33; refine HW.out.mono ?_; rintro e w' ⟨rfl, rfl⟩))
  clear T1 HW
  go_loop [10] (fun s => ∃ j : Nat, s = .int .i64 j ∧ j ≤ imgs.length ∧ Hid (∀ i, i < j → Num.isWB m (imgs.getD i []) = true)) (fun s => imgs.length - (intOf s).toNat)
  case atStart => exact ⟨0, rfl, by omega, Lib.hid fun i hi => by omega⟩
  case round =>
    obtain ⟨j, rfl, hj, hp⟩ := hrel
    by_cases hlt : j < imgs.length
    · obtain ⟨g, o, B, cB, rfl, hg, hc, hBl, hB⟩ := HC.out j hlt
      have i0 : (0 : Int) ≤ (j : Int) := by omega
      have i1 : (j : Int) < (imgs.length : Int) := by omega
      have hcw := sWordB_any m B cB (imgs.getD j []) w hB hBl h2
      cases hxx : Num.isWB m (imgs.getD j []) with
      | true =>
        have HP : Hid (∀ i, i < j + 1 → Num.isWB m (imgs.getD i []) = true) := Lib.hid fun i hi => by
          rcases Nat.lt_succ_iff_lt_or_eq.mp hi with h1 | rfl
          · exact hp.out i h1
          · exact hxx
        rw [hxx] at hcw
        have HCW := Lib.hid hcw
        clear hp hxx hB hBl hcw
        generalize imgs.getD j [] = f at hc HCW
        go_wp2_with (go_at_call 33; refine HCW.out.mono ?_; rintro e w' ⟨rfl, rfl⟩)
        exact ⟨⟨j + 1, by go_num, by omega, HP⟩, by simp [intOf]; omega⟩
      | false =>
        have hna : ¬ imgs.all (Num.isWB m) = true := fun ha => by
          have := List.all_eq_true.mp ha _ (List.getElem_mem hlt)
          rw [List.getD_eq_getElem?_getD, List.getElem?_eq_getElem hlt] at hxx
          simp only [Option.getD_some] at hxx
          rw [hxx] at this
          cases this
        have HR := Lib.hid (HBAD.out hna)
        rw [hxx] at hcw
        have HCW := Lib.hid hcw
        clear hp hxx hB hBl hcw hna
        generalize imgs.getD j [] = f at hc HCW
        go_wp2_with (go_at_call 33; refine HCW.out.mono ?_; rintro e w' ⟨rfl, rfl⟩)
        go_ret2
        rw [HR.out.1, HR.out.2]
        exact MadeC.nilW (Below.refl _ _)
    · have hge : ¬ ((j : Int) < (imgs.length : Int)) := by omega
      obtain rfl : j = imgs.length := by omega
      have ha : imgs.all (Num.isWB m) = true := List.all_eq_true.mpr fun f hf => by
        obtain ⟨i, hi, rfl⟩ := List.mem_iff_getElem.mp hf
        have := hp.out i hi
        rwa [List.getD_eq_getElem?_getD, List.getElem?_eq_getElem hi] at this
      have HR := Lib.hid (HG.out ha)
      have HRE := Lib.hid (HS.out ha)
      have hsm := HSM.out ha
      have HSMM := Lib.hid hsm
      have hrl := Num.limR_len (Num.repW imgs x)
      clear hsm ha hp
      go_wp2_with (fail)
      refine HRE.out.mono ?_; rintro e w1 ⟨u1, rfl, own1, bel1⟩
      obtain ⟨U, nU, cU, rfl, hnU⟩ := own1.formN
      have HP := Lib.hid (sResult_any U nU cU (Num.repW imgs x) w1 own1.reads hnU HSMM.out.1 HSMM.out.2)
      have HNU := Lib.hid hnU
      clear hnU HRE
      go_wp2_with (fail)
      refine HP.out.mono ?_; intro e w3 hh
      obtain ⟨r, rfl, own, bel⟩ := hh.up bel1
      go_wp2_with (fail)
      go_ret2
      rw [HR.out.1, HR.out.2]
      exact MadeC.list own (by omega) bel
theorem sSubstituteWord_any (k m : Int) (v u : Value) (x : List Int) (imgs : List (List Int)) (w : World) (h : spI.rd w v x) (h' : spII.rd w u imgs) (hi : imgs.length ≤ 1000000000) :
    Calls Try.prog 9 #[.int .i64 k, v, .int .i64 m, u] w (MadeC spI (rSubstituteWord k x m imgs) (cSubstituteWord k x m imgs) w) := by
  obtain ⟨A, c, rfl, hm, hA⟩ := h
  have hw := h'
  obtain ⟨C, d, rfl, hm', -⟩ := h'
  obtain ⟨-, -, hC⟩ := RdW.of hw
  by_cases hr : (0 ≤ k ∧ k ≤ 6) ∧ 0 ≤ m ∧ m ≤ 6
  · by_cases hn : Num.isWB k x = true ∧ (imgs.length : Int) = k
    · exact sSubst_long k m A C c d x imgs w hA hC hr hn.1 hn.2
    · obtain ⟨e1, e2⟩ := sub_bad (x := x) (imgs := imgs) hr (fun hh => hn ⟨hh.1, hh.2.1⟩)
      rw [e1, e2]
      refine (sSubst_short k m A C c d x imgs w hA hm hi hr hn).mono ?_
      rintro e w' ⟨rfl, hw'⟩
      exact MadeC.nilW (Below.same hw')
  · obtain ⟨e1, e2⟩ := sub_range (x := x) (imgs := imgs) hr
    rw [e1, e2]
    refine (sSubst_range k m A C c d imgs.length x.length w hr).mono ?_
    rintro e w' ⟨rfl, hw'⟩
    exact MadeC.nilW (Below.same hw')
theorem iSubstituteWord_ok (k : Int) (v : Value) (x : List Int) (m : Int) (u : Value) (imgs : List (List Int)) (w : World) (h : spI.rd w v x) (h' : spII.rd w u imgs) (s : spI.sz x ≤ 1048576) (s' : spII.sz imgs ≤ 1048576) :
    Calls Try.prog 8 #[.int .i64 k, v, .int .i64 m, u] w (MadeC spI (rSubstituteWord k x m imgs) (cSubstituteWord k x m imgs) w) := iSubstituteWord_any k m v u x imgs w h h'
theorem sSubstituteWord_ok (k : Int) (v : Value) (x : List Int) (m : Int) (u : Value) (imgs : List (List Int)) (w : World) (h : spI.rd w v x) (h' : spII.rd w u imgs) (s : spI.sz x ≤ 1048576) (s' : spII.sz imgs ≤ 1048576) :
    Calls Try.prog 9 #[.int .i64 k, v, .int .i64 m, u] w (MadeC spI (rSubstituteWord k x m imgs) (cSubstituteWord k x m imgs) w) :=
  sSubstituteWord_any k m v u x imgs w h h' (by have e : spII.sz imgs = imgs.length + sumOf spI.sz imgs := rfl; omega)
end Go.Proofs.Ytpplojbcjgiabaa
