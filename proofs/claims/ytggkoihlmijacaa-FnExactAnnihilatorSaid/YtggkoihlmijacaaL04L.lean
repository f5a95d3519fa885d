/- The model's l03Turn. -/
import Derived.Test.YtggkoihlmijacaaL03L
namespace Go.Proofs.Ytggkoihlmijacaa
open Go.RowKit
set_option linter.unusedVariables false
set_option linter.unusedSimpArgs false

set_option maxRecDepth 100000 in
set_option maxHeartbeats 2000000 in
theorem sTurn_any (C' : Int) (rv : Value) (R : List (List Int)) (C : Nat) (w : World) (hr : spII.rd w rv R) (hv : ∀ i, i < R.length → (R.getD i []).length = C) (hC : C ≤ 100) (hl : R.length ≤ 100) (eC : C' = (C : Int)) :
    Calls Try.prog 70 #[rv, .int .i64 C'] w (Made spII (Num.transR R C) w) := by
  subst eC
  obtain ⟨i0', hi', hz0', hz1', hz2'⟩ := info_parts infoI
  obtain ⟨i0, hi, hz0, hz1, hz2⟩ := info_parts infoII
  have hr0 := hr
  obtain ⟨A0, c0, rfl, -, -⟩ := hr0
  have R0 := Lib.hid hr
  have HRV := Lib.hid hv
  clear hv hr
  go_enter Try.func70, Try.ntmps70
  go_wp2_with (fail)
  go_loopw [5, 6] (fun s4 s5 wr => ∃ (j : Nat) (S : Nat → Prop), s5 = .int .i64 j ∧ j ≤ C ∧ Hid (spII.own wr S s4 ((Num.transR R C).take j)) ∧ Hid (∀ k, S k → w.heap.size ≤ k) ∧ Below w.heap.size w wr) (fun _ s5 _ => C - (intOf s5).toNat)
  case atStart => exact ⟨0, _, rfl, by omega, Lib.hid (spL_empty _ _ _ _), Lib.hid (fun k hk => by omega), by go_grown⟩
  case round =>
    obtain ⟨j, S, rfl, hj, HO, hS, bel⟩ := hrel
    generalize wr = W0 at *
    have hlj : ((Num.transR R C).take j).length = j := by rw [List.length_take, Num.transR_length]; omega
    by_cases hlt : j < C
    · have j0 : (0 : Int) ≤ (j : Int) := by omega
      have j1 : (j : Int) < (C : Int) := by omega
      have ET := Lib.hid (Num.transR_take (rows := R) hlt)
      obtain ⟨A', c', e', -⟩ := spII.own_rd HO.out
      rw [hlj] at e'
      subst e'
      have HLJ := Lib.hid hlj
      clear hlj
      go_wp2_with (fail)
      go_loopw [7, 8] (fun s6 s7 w2 => ∃ i : Nat, s7 = .int .i64 i ∧ i ≤ R.length ∧ Hid (OwnI w2 W0.heap.size s6 ((Num.colV R j).take i)) ∧ Below W0.heap.size W0 w2) (fun _ s7 _ => R.length - (intOf s7).toNat)
      case atStart => exact ⟨0, rfl, by omega, Lib.hid (by simpa using OwnI.lit W0 [] (Nat.le_refl _) (by simp)), by go_grown⟩
      case round =>
        obtain ⟨i, rfl, hii, HOW, bw⟩ := hrel
        by_cases hlti : i < R.length
        · obtain ⟨gz, oz, uz, rfl, hg, hc, hru⟩ := spL_row (spII.rd_below (spII.rd_below R0.out bel) bw) hlti
          obtain ⟨Cz, cC, rfl, -, -⟩ := spI_form hru
          have hrl := HRV.out i hlti
          obtain ⟨gr, or, rfl, hgr, hcr⟩ := spI_at hru (j := j) (by omega)
          have i0'' : (0 : Int) ≤ (i : Int) := by omega
          have i1 : (i : Int) < (R.length : Int) := by omega
          have jl : (j : Int) < ((R.getD i []).length : Int) := by omega
          have EC := Lib.hid (Num.colV_take (j := j) hlti)
          have xl : ((Num.colV R j).take i).length ≤ 100 := by rw [List.length_take]; omega
          clear hru hrl
          generalize (Num.colV R j).take i = X at *
          generalize (R.getD i []).getD j 0 = y at *
          generalize (R.getD i []).length = ln at *
          have HB := Lib.hid HOW.out.base_le
          have bws := bw.size
          go_wp2_with (first | (at_builtin; refine wpList_append_own_at _ rfl (.tmp 22) (.tmp 30) 31 rfl W0.heap.size 2 i0' (.int .i64 0) 1 8 Try.underlying31 hi' hz0' hz1' hz2' rfl (by decide) _ _ _ rfl (HOW.out.alloc _) ⟨_, 0, none⟩ 1 1 [.int .i64 y] rfl rfl (cell_one_new _ _ _) (by simp [Value.oneCell']) (by unfold maxLen; omega) (by omega) (by simp; omega) ?_; intro v3 w3 own3 gr3 _ at3))
          exact ⟨⟨i + 1, by go_num, by omega, Lib.hid (by rw [EC.out]; exact OwnI.snoc own3), (bw.alloc (by omega) _).grown gr3 (by simp; omega) HB.out⟩, by simp [intOf]; omega⟩
        · obtain rfl : i = R.length := by omega
          have hge : ¬ ((R.length : Int) < (R.length : Int)) := by omega
          have HE : Hid ((Num.colV R j).take R.length = Num.colV R j) := Lib.hid (List.take_of_length_le (by rw [Num.colV_length]; omega))
          rw [HE.out] at HOW
          obtain ⟨U, cU, rfl⟩ := HOW.out.form
          obtain ⟨S2, hS2, ow2⟩ : ∃ S2 : Nat → Prop, (∀ k, S2 k → W0.heap.size ≤ k) ∧ spI.own wr S2 (.slice U (Num.colV R j).length cU) (Num.colV R j) := ⟨_, fun k hk => HOW.out.base_le k hk, spI_of HOW.out⟩
          clear HE HOW
          generalize Num.colV R j = col at *
          have o2 := spII.own_below HO.out bw
          obtain ⟨vs3, hvs, hpush⟩ := spL_push o2 ow2 (fun k h1 h2 => by have := spII.own_lt HO.out h1; have := hS2 k h2; omega)
          rw [HLJ.out] at hvs hpush
          have HVS := Lib.hid (hvs.alloc (.cells #[.slice U col.length cU] 31))
          have HP := Lib.hid hpush
          have HB := Lib.hid (fun k (hk : (Value.slice A' j c').ownBlock = some k) => hS.out k (by obtain ⟨_, _, _, _, _, _, h5, _⟩ := HO.out; exact h5 k hk))
          clear hvs hpush o2
          go_wp2_with (first | (at_builtin; refine wpList_append_lies _ rfl _ _ 22 rfl 0 31 i0 (.slice none 0 0) 1 24 Try.underlying22 hi hz0 hz1 hz2 rfl (by decide) (.slice A' j c') j vs3 rfl HVS.out ⟨_, 0, none⟩ 1 1 [.slice U col.length cU] rfl rfl (by first | exact cell_one_new _ _ _ | (have hcn := cell_one_new wr (.slice U col.length cU) 31; rw [World.size_setCell] at hcn; exact hcn)) (by simp [Value.oneCell']) (by decide) (by unfold maxLen; omega) (by omega) (Nat.zero_le _) _ rfl ?_; intro g3 cap3 w3 own3 gr3 at3 lt3))
          have hzp : W0.heap.size ≤ wr.heap.size := bw.size
          have hzw := bel.size
          have OW3 := Lib.hid (HP.out _ _ _ g3 ((Below.refl _ _).alloc (Nat.le_refl _) _) own3 gr3 rfl (by rcases at3 with h' | h'; exact .inl h'; exact .inr (by simp at h' ⊢; omega)) lt3)
          have HS3 : Hid (∀ k, (S k ∨ S2 k ∨ k = g3) → w.heap.size ≤ k) := Lib.hid (fun k hk => by
            rcases hk with hk | hk | hk
            · exact hS.out _ hk
            · have := hS2 _ hk; omega
            · rcases at3 with h' | h'
              · rw [hk]; exact HB.out _ h'
              · have hzp' := hzp; simp at h' hzp'; omega)
          have bel3 : Below w.heap.size w w3 := ((bel.trans (bw.mono hzw)).alloc (by omega) _).grown gr3 (by have hzp' := hzp; simp at hzp' ⊢; omega) HB.out
          clear own3 gr3 at3 lt3 HVS HP
          clear bw hS2 ow2
          go_wp2_with (fail)
          exact ⟨⟨j + 1, _, by go_num, by omega, Lib.hid (by rw [ET.out]; exact OW3.out), HS3, bel3⟩, by simp [intOf]; omega⟩
    · obtain rfl : j = C := by omega
      have hge : ¬ ((j : Int) < (j : Int)) := by omega
      have HE : Hid ((Num.transR R j).take j = Num.transR R j) := Lib.hid (List.take_of_length_le (by rw [Num.transR_length]; omega))
      rw [HE.out] at HO
      clear hlj HE
      go_wp2_with (fail)
      go_ret
      exact Made.of rfl HO.out (fun k hk => hS.out k hk) bel
end Go.Proofs.Ytggkoihlmijacaa
