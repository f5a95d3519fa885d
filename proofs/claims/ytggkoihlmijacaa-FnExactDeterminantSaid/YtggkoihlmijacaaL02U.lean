/- The model's product of matrices. -/
import Derived.Test.YtggkoihlmijacaaL02M
import Derived.Test.YtggkoihlmijacaaL02K
namespace Go.Proofs.Ytggkoihlmijacaa
open Go.RowKit
set_option linter.unusedVariables false
set_option linter.unusedSimpArgs false

theorem Num.prodR_length (p : Int) (a b : List (List Int)) (n : Nat) : (Num.prodR p a b n).length = a.length := by simp [Num.prodR]
theorem Num.prodR_get {p : Int} {a b : List (List Int)} {n j : Nat} (h : j < a.length) : (Num.prodR p a b n).getD j [] = Num.timesV p (a.getD j []) b n := by
  unfold Num.prodR
  rw [Num.getD_lt _ _ (by simpa using h), Num.getD_lt _ _ h, List.getElem_map]
theorem Num.prodR_take {p : Int} {a b : List (List Int)} {n j : Nat} (h : j < a.length) : (Num.prodR p a b n).take (j + 1) = (Num.prodR p a b n).take j ++ [Num.timesV p (a.getD j []) b n] := by
  have hl : j < (Num.prodR p a b n).length := by rw [Num.prodR_length]; exact h
  rw [List.take_succ_eq_append_getElem hl, ← Num.getD_lt _ [] hl, Num.prodR_get h]
theorem Num.prodR_len {p : Int} {a b : List (List Int)} {n : Nat} : ∀ i, i < (Num.prodR p a b n).length → ((Num.prodR p a b n).getD i []).length = n := fun i hi => by
  rw [Num.prodR_length] at hi
  rw [Num.prodR_get hi]
  exact Num.timesTo_length _ _ _ _ _
set_option maxRecDepth 100000 in
set_option maxHeartbeats 1000000 in
theorem sProduct_any (p : Int) (av bv : Value) (a b : List (List Int)) (n m : Nat) (w : World) (ha : spII.rd w av a) (hb : spII.rd w bv b) (hp1 : 2 ≤ p) (hp2 : p ≤ 7) (hav : ∀ i, i < a.length → Num.Vec p m (a.getD i [])) (hbv : ∀ i, i < b.length → Num.Vec p n (b.getD i [])) (hm : b.length = m) (hn : n ≤ 1000) (hml : m ≤ 1000) (hal : a.length ≤ 1000) :
    Calls Try.prog 78 #[.int .i64 p, av, bv, .int .i64 n] w (Made spII (Num.prodR p a b n) w) := by
  obtain ⟨i0, hi, hz0, hz1, hz2⟩ := info_parts infoII
  have ha0 := ha
  obtain ⟨A, cA, rfl, -, -⟩ := ha0
  have HA := Lib.hid ha
  have HB' := Lib.hid hb
  have HAV := Lib.hid hav
  have HBV := Lib.hid hbv
  have HM := Lib.hid hm
  have PL := Lib.hid (Num.prodR_length p a b n)
  clear ha hb hav hbv hm
  go_enter Try.func78, Try.ntmps78
  go_wp2_with (fail)
  go_loopw [9, 10] (fun s3 s4 wr => ∃ (j : Nat) (S : Nat → Prop), s4 = .int .i64 j ∧ j ≤ a.length ∧ Hid (spII.own wr S s3 ((Num.prodR p a b n).take j)) ∧ Hid (∀ k, S k → w.heap.size ≤ k) ∧ Below w.heap.size w wr) (fun _ s4 _ => a.length - (intOf s4).toNat)
  case atStart => exact ⟨0, _, rfl, by omega, Lib.hid (spL_empty _ _ _ _), Lib.hid (fun k hk => by omega), by go_grown⟩
  case round =>
    obtain ⟨j, S, rfl, hj, HO, hS, bel⟩ := hrel
    have hlj : ((Num.prodR p a b n).take j).length = j := by rw [List.length_take, PL.out]; omega
    by_cases hlt : j < a.length
    · have j0 : (0 : Int) ≤ (j : Int) := by omega
      have j1 : (j : Int) < (a.length : Int) := by omega
      have ET := Lib.hid (Num.prodR_take (p := p) (b := b) (n := n) hlt)
      obtain ⟨A', c', e', -⟩ := spII.own_rd HO.out
      rw [hlj] at e'
      subst e'
      have HLJ := Lib.hid hlj
      obtain ⟨g, o, u, rfl, hg, hc, hru⟩ := spL_row (spII.rd_below HA.out bel) hlt
      have HT := Lib.hid (sTimes_any p u bv (a.getD j []) b n m wr (spII.rd_below HB'.out bel) hru hp1 hp2 HBV.out (HAV.out j hlt) HM.out hn hml)
      clear hlj hru
      generalize a.getD j [] = ra at *
      go_wp2_with (fail)
      refine HT.out.mono ?_; rintro e w2 ⟨u2, S2, rfl, ow2, hS2, hb2⟩
      obtain ⟨U, cU, rfl, -, -⟩ := spI_form (spI.own_rd ow2)
      have o2 := spII.own_below HO.out hb2
      obtain ⟨vs3, hvs, hpush⟩ := spL_push o2 ow2 (fun k h1 h2 => by have := spII.own_lt HO.out h1; have := hS2 k h2; omega)
      rw [HLJ.out] at hvs hpush
      have HVS := Lib.hid (hvs.alloc (.cells #[.slice U (Num.timesV p ra b n).length cU] 31))
      have HP := Lib.hid hpush
      have HB := Lib.hid (fun k (hk : (Value.slice A' j c').ownBlock = some k) => hS.out k (by obtain ⟨_, _, _, _, _, _, h5, _⟩ := HO.out; exact h5 k hk))
      clear hvs hpush o2
      go_wp2_with (first | (at_builtin; refine wpList_append_lies _ rfl _ _ 22 rfl 0 31 i0 (.slice none 0 0) 1 24 Try.underlying22 hi hz0 hz1 hz2 rfl (by decide) (.slice A' j c') j vs3 rfl HVS.out ⟨_, 0, none⟩ 1 1 [.slice U (Num.timesV p ra b n).length cU] rfl rfl (by first | exact cell_one_new _ _ _ | (have hcn := cell_one_new w2 (.slice U (Num.timesV p ra b n).length cU) 31; rw [World.size_setCell] at hcn; exact hcn)) (by simp [Value.oneCell']) (by decide) (by unfold maxLen; omega) (by omega) (Nat.zero_le _) _ rfl ?_; intro g3 cap3 w3 own3 gr3 at3 lt3))
      have hzp : wr.heap.size ≤ w2.heap.size := hb2.size
      have hzw := bel.size
      have OW3 := Lib.hid (HP.out _ _ _ g3 ((Below.refl _ _).alloc (Nat.le_refl _) _) own3 gr3 rfl (by rcases at3 with h' | h'; exact .inl h'; exact .inr (by simp at h' ⊢; omega)) lt3)
      have HS3 : Hid (∀ k, (S k ∨ S2 k ∨ k = g3) → w.heap.size ≤ k) := Lib.hid (fun k hk => by
        rcases hk with hk | hk | hk
        · exact hS.out _ hk
        · have := hS2 _ hk; omega
        · rcases at3 with h' | h'
          · rw [hk]; exact HB.out _ h'
          · have hzp' := hzp; simp at h' hzp'; omega)
      have bel3 : Below w.heap.size w w3 := ((bel.trans (hb2.mono hzw)).alloc (by omega) _).grown gr3 (by have hzp' := hzp; simp at hzp' ⊢; omega) HB.out
      clear own3 gr3 at3 lt3 HVS HP
      clear hb2 hS2 ow2
      go_wp2_with (fail)
      exact ⟨⟨j + 1, _, by go_num, by omega, Lib.hid (by rw [ET.out]; exact OW3.out), HS3, bel3⟩, by simp [intOf]; omega⟩
    · have hge : ¬ ((j : Int) < (a.length : Int)) := by omega
      obtain rfl : j = a.length := by omega
      have HE : Hid ((Num.prodR p a b n).take a.length = Num.prodR p a b n) := Lib.hid (List.take_of_length_le (by rw [PL.out]; omega))
      rw [HE.out] at HO
      clear hlj
      go_wp2_with (fail)
      go_ret
      exact Made.of rfl HO.out hS.out bel
end Go.Proofs.Ytggkoihlmijacaa
