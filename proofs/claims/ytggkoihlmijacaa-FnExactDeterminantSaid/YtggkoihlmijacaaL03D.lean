/- The model's left kernel and inverse, as rows. -/
import Derived.Test.YtggkoihlmijacaaL03C
import Derived.Test.YtggkoihlmijacaaKB
namespace Go.Proofs.Ytggkoihlmijacaa
open Go.RowKit
set_option linter.unusedVariables false
set_option linter.unusedSimpArgs false

theorem spI_own_cap {w : World} {S : Nat → Prop} {v : Value} {x : List Int} (h : spI.own w S v x) (hx : 0 < x.length) : ∃ g c, v = .slice (some ⟨g, 0, none⟩) x.length c ∧ x.length ≤ c ∧ c ≤ maxLen ∧ g < w.heap.size ∧ ∀ j, j < x.length → w.cell? ⟨g, j, none⟩ = some (.int .i64 (x.getD j 0)) := by
  obtain ⟨h1, h2, h3⟩ := h
  have h1' := h1
  rcases h1.2 with ⟨hv, h0⟩ | ⟨g, c, cur, hv, hb, hg, q1, q2, r⟩
  · omega
  · subst hv
    exact ⟨g, c, rfl, q1, q2, h3 g (h2 g rfl), fun j hj => by rw [h1'.cellAt j (by simpa using hj)]; simp [hj]⟩
theorem spI_rd_drop {w : World} {g n C d : Nat} {x : List Int} (hx : x.length = n) (hc : ∀ j, j < n → w.cell? ⟨g, j, none⟩ = some (.int .i64 (x.getD j 0))) (hg : g < w.heap.size) (hC : C ≤ n) (hn : n ≤ maxLen) : spI.rd w (.slice (some ⟨g, C, none⟩) (n - C) d) (x.drop C) := by
  have hl : (x.drop C).length = n - C := by simp; omega
  refine ⟨_, d, by rw [hl], by rw [hl]; omega, fun j hj => ⟨g, C, rfl, hg, ?_⟩⟩
  rw [hl] at hj
  rw [hc (C + j) (by omega), Num.drop_get]
def Num.nullTo (E : List (List Int)) (C j : Nat) : List (List Int) := ((E.take j).filter fun r => decide (C ≤ Num.lead r)).map (List.drop C)
theorem Num.nullTo_yes {E : List (List Int)} {C j : Nat} (h : j < E.length) (hl : C ≤ Num.lead (E.getD j [])) : Num.nullTo E C (j + 1) = Num.nullTo E C j ++ [(E.getD j []).drop C] := by
  unfold Num.nullTo
  rw [Num.take_snoc _ [] h, List.filter_append, List.map_append]
  generalize E.getD j [] = r at *
  rw [List.filter_cons_of_pos (by simpa using hl)]
  rfl
theorem Num.nullTo_no {E : List (List Int)} {C j : Nat} (h : j < E.length) (hl : ¬ C ≤ Num.lead (E.getD j [])) : Num.nullTo E C (j + 1) = Num.nullTo E C j := by
  unfold Num.nullTo
  rw [Num.take_snoc _ [] h, List.filter_append, List.map_append]
  generalize E.getD j [] = r at *
  rw [List.filter_cons_of_neg (by simpa using hl)]
  simp
theorem Num.nullTo_len {E : List (List Int)} {C j : Nat} : (Num.nullTo E C j).length ≤ j := by
  unfold Num.nullTo
  rw [List.length_map]
  exact Nat.le_trans (List.length_filter_le _ _) (by rw [List.length_take]; omega)
set_option maxRecDepth 100000 in
set_option maxHeartbeats 2000000 in
theorem sNull_any (p : Int) (rv : Value) (rows : List (List Int)) (C : Nat) (w : World) (hr : spII.rd w rv rows) (hgp : Num.gp p = true) (hrv : ∀ i, i < rows.length → Num.Vec p C (rows.getD i [])) (hC : C ≤ 100) (hrl : rows.length ≤ 100) :
    Calls Try.prog 69 #[.int .i64 p, rv, .int .i64 C] w (Made spII (Num.nullR p rows C) w) := by
  obtain ⟨i0, hi, hz0, hz1, hz2⟩ := info_parts infoII
  have E := Num.wide_ech hgp hrv
  have hel := Num.wide_len hgp hrv
  have HWD := Lib.hid (sWide_any p rv rows C w hr hgp hrv hC hrl)
  have HNR : Hid (Num.nullTo (Num.wideE p rows) C (Num.wideE p rows).length = Num.nullR p rows C) := Lib.hid (by
    unfold Num.nullTo Num.nullR
    rw [List.take_length, E.above])
  have HVEC := Lib.hid E.vec
  have HLT := Lib.hid E.lt
  have hel1 : (Num.wideE p rows).length ≤ rows.length := Nat.le_of_eq hel
  have hel2 : rows.length ≤ (Num.wideE p rows).length := Nat.le_of_eq hel.symm
  clear hr hgp hrv E hel
  generalize Num.wideE p rows = e at *
  go_enter Try.func69, Try.ntmps69
  go_wp2_with (fail)
  refine HWD.out.mono ?_; rintro e' w1 ⟨u1, S1, rfl, ow1, hS1, hb1⟩
  obtain ⟨Ae, ce, rfl, -, -⟩ := spII.own_rd ow1
  have HO1 := Lib.hid ow1
  clear ow1 hS1 HWD
  go_wp2_with (fail)
  go_loopw [8, 9] (fun s6 s7 wr => ∃ (j : Nat) (S : Nat → Prop), s7 = .int .i64 j ∧ j ≤ e.length ∧ Hid (spII.own wr S s6 (Num.nullTo e C j)) ∧ Hid (∀ k, S k → w1.heap.size ≤ k) ∧ Below w1.heap.size w1 wr) (fun _ s7 _ => e.length - (intOf s7).toNat)
  case atStart => exact ⟨0, _, rfl, by omega, Lib.hid (by rw [show Num.nullTo e C 0 = [] by simp [Num.nullTo]]; exact spL_empty _ _ _ _), Lib.hid (fun k hk => by omega), by go_grown⟩
  case round =>
    obtain ⟨j, S, rfl, hj, HO, hS, bel⟩ := hrel
    by_cases hlt : j < e.length
    · have j0 : (0 : Int) ≤ (j : Int) := by omega
      have j1 : (j : Int) < (e.length : Int) := by omega
      obtain ⟨g, cg, u, T, e1, -, hgl, hc, -, hu, -, -⟩ := spL_own_at (spII.own_below HO1.out bel) hlt
      simp only [Value.slice.injEq] at e1
      obtain ⟨rfl, -, rfl⟩ := e1
      have V := HVEC.out j hlt
      have vl := V.len
      have hltl := HLT.out j hlt
      obtain ⟨gu, cu, rfl, hcap, hcm, hgu, hcell⟩ := spI_own_cap hu (by omega)
      have HL := Lib.hid (sLead_any _ (e.getD j []) wr (spI.own_rd hu) (by omega))
      have hlb : (Num.lead (e.getD j []) : Int) ≤ 1000 := by omega
      unfold maxLen at hcm
      by_cases hlc : C ≤ Num.lead (e.getD j [])
      · have ET := Lib.hid (Num.nullTo_yes hlt hlc)
        have hlc' : (C : Int) ≤ (Num.lead (e.getD j []) : Int) := by omega
        have hrd := spI_rd_drop (d := cu - C) rfl hcell hgu (by omega : C ≤ (e.getD j []).length) (by unfold maxLen; omega)
        have hdl : ((e.getD j []).drop C).length ≤ 1000 := by rw [List.length_drop]; omega
        have HOW := Lib.hid (sOwn_any _ ((e.getD j []).drop C) wr hrd (by omega))
        have cc0 : (0 : Int) ≤ (C : Int) := by omega
        have cc1 : (C : Int) ≤ ((e.getD j []).length : Int) := by omega
        have cc2 : C ≤ (e.getD j []).length := by omega
        have cc3 : ¬ (cu = C) := by omega
        have hnl := Num.nullTo_len (E := e) (C := C) (j := j)
        obtain ⟨A', c', e9, -⟩ := spII.own_rd HO.out
        subst e9
        clear V vl hltl hu hcell hrd hlc hcap
        generalize (e.getD j []).drop C = x at *
        generalize Num.lead (e.getD j []) = ld at *
        generalize (e.getD j []).length = ln at *
        go_wp2_with (fail)
        refine HL.out.mono ?_; rintro e' w2 ⟨rfl, rfl⟩
        go_wp2_with (fail)
        refine HOW.out.mono ?_; rintro e' w2 ⟨u2, S2, rfl, ow2, hS2, hb2⟩
        obtain ⟨U, cU, rfl, -, -⟩ := spI_form (spI.own_rd ow2)
        have o2 := spII.own_below HO.out hb2
        obtain ⟨vs3, hvs, hpush⟩ := spL_push o2 ow2 (fun k h1 h2 => by have := spII.own_lt HO.out h1; have := hS2 k h2; omega)
        have HVS := Lib.hid (hvs.alloc (.cells #[.slice U x.length cU] 31))
        have HP := Lib.hid hpush
        have HB := Lib.hid (fun k (hk : (Value.slice A' (Num.nullTo e C j).length c').ownBlock = some k) => hS.out k (by obtain ⟨_, _, _, _, _, _, h5, _⟩ := HO.out; exact h5 k hk))
        clear hvs hpush o2
        go_wp2_with (first | (at_builtin; refine wpList_append_lies _ rfl _ _ 22 rfl 0 31 i0 (.slice none 0 0) 1 24 Try.underlying22 hi hz0 hz1 hz2 rfl (by decide) (.slice A' (Num.nullTo e C j).length c') (Num.nullTo e C j).length vs3 rfl HVS.out ⟨_, 0, none⟩ 1 1 [.slice U x.length cU] rfl rfl (by first | exact cell_one_new _ _ _ | (have hcn := cell_one_new w2 (.slice U x.length cU) 31; rw [World.size_setCell] at hcn; exact hcn)) (by simp [Value.oneCell']) (by decide) (by unfold maxLen; omega) (by omega) (Nat.zero_le _) _ rfl ?_; intro g3 cap3 w3 own3 gr3 at3 lt3))
        have hzp : wr.heap.size ≤ w2.heap.size := hb2.size
        have hzw := bel.size
        have OW3 := Lib.hid (HP.out _ _ _ g3 ((Below.refl _ _).alloc (Nat.le_refl _) _) own3 gr3 rfl (by rcases at3 with h' | h'; exact .inl h'; exact .inr (by simp at h' ⊢; omega)) lt3)
        have HS3 : Hid (∀ k, (S k ∨ S2 k ∨ k = g3) → w1.heap.size ≤ k) := Lib.hid (fun k hk => by
          rcases hk with hk | hk | hk
          · exact hS.out _ hk
          · have := hS2 _ hk; omega
          · rcases at3 with h' | h'
            · rw [hk]; exact HB.out _ h'
            · have hzp' := hzp; simp at h' hzp'; omega)
        have bel3 : Below w1.heap.size w1 w3 := ((bel.trans (hb2.mono hzw)).alloc (by omega) _).grown gr3 (by have hzp' := hzp; simp at hzp' ⊢; omega) HB.out
        clear own3 gr3 at3 lt3 HVS HP
        have HE3 : Hid (spII.own w3 (fun q => S q ∨ S2 q ∨ q = g3) (.slice (some ⟨g3, 0, none⟩) ((Num.nullTo e C j).length + 1) cap3) (Num.nullTo e C (j + 1))) := Lib.hid (by rw [ET.out]; exact OW3.out)
        clear hb2 hS2 ow2 OW3
        go_wp2_with (fail)
        exact ⟨⟨j + 1, _, by go_num, by omega, HE3, HS3, bel3⟩, by simp [intOf]; omega⟩
      · have ET := Lib.hid (Num.nullTo_no hlt hlc)
        have hlc' : ¬ ((C : Int) ≤ (Num.lead (e.getD j []) : Int)) := by omega
        clear V vl hltl hu hcell hlc hcap
        generalize Num.lead (e.getD j []) = ld at *
        generalize (e.getD j []).length = ln at *
        go_wp2_with (fail)
        refine HL.out.mono ?_; rintro e' w2 ⟨rfl, rfl⟩
        go_wp2_with (fail)
        exact ⟨⟨j + 1, S, by go_num, by omega, Lib.hid (by rw [ET.out]; exact HO.out), hS, bel⟩, by simp [intOf]; omega⟩
    · obtain rfl : j = e.length := by omega
      have hge : ¬ ((e.length : Int) < (e.length : Int)) := by omega
      rw [HNR.out] at HO
      go_wp2_with (fail)
      go_ret
      exact Made.of rfl HO.out (fun k hk => by have := hS.out k hk; have := hb1.size; omega) (bstep hb1 hb1.size bel)
end Go.Proofs.Ytggkoihlmijacaa
