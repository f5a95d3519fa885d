/- The model's l04Det. -/
import Derived.Test.YtihdidbikeaafaaL06B
import Derived.Test.YtihdidbikeaafaaL06D
import Derived.Test.YtihdidbikeaafaaKB
import Derived.Deep.RegionHeld3
namespace Go.Proofs.Ytihdidbikeaafaa
open Go.RowKit
set_option linter.unusedVariables false
set_option linter.unusedSimpArgs false

/-- A list of numbers with as much room as it has numbers, as a shape to be read. -/
def spIc : Sp (List Int) where
  rd w v xs := spI.rd w v xs ∧ CapOk v
  own := spI.own
  sz := List.length
  cnt := List.length
  mark k xs := xs
  rd_keep := fun h hz hk => ⟨spI.rd_keep h.1 hz hk, h.2⟩
  own_keep := spI.own_keep
  own_lt := spI.own_lt
  own_rd := fun h => ⟨spI.own_rd h, capOk_own h.1⟩
def spIIc : Sp (List (List Int)) := spL 25 spIc []
theorem spIIc_own {w : World} {S : Nat → Prop} {v : Value} {xs : List (List Int)} (h : spII.own w S v xs) : spIIc.rd w v xs ∧ CapOk v :=
  ⟨spIIc.own_rd (S := S) h, by obtain ⟨vs, T, o1, _⟩ := h; exact capOk_own o1⟩
theorem spIIc_row {w : World} {A : Option Addr} {n c : Nat} {x : List (List Int)} (h : spIIc.rd w (.slice A n c) x) {j : Nat} (hj : j < x.length) :
    ∃ g o B cB, A = some ⟨g, o, none⟩ ∧ g < w.heap.size ∧ w.cell? ⟨g, o + j, none⟩ = some (.slice B (x.getD j []).length cB) ∧ (x.getD j []).length ≤ cB ∧ spI.rd w (.slice B (x.getD j []).length cB) (x.getD j []) := by
  obtain ⟨g, o, u, h1, h2, h3, h4, h5⟩ := spL_row h hj
  have h4' := h4
  obtain ⟨B, cB, rfl, h6, h7⟩ := h4'
  exact ⟨g, o, B, cB, h1, h2, h3, h5 _ _ _ rfl, h4⟩
/-- A table whose rows have as much room as they have numbers. -/
def rdTabC (w : World) (v : Value) (x : Tab) : Prop := ∃ v2, v = .agg #[.int .i64 x.C, v2] ∧ spIIc.rd w v2 x.R
theorem spIIc_rd {w : World} {v : Value} {x : List (List Int)} (h : spIIc.rd w v x) : spII.rd w v x := by
  obtain ⟨A, c, rfl, hm, h3⟩ := h
  refine ⟨A, c, rfl, hm, fun j hj => ?_⟩
  obtain ⟨g, o, u, e1, e2, e3, e4⟩ := h3 j hj
  exact ⟨g, o, u, e1, e2, e3, e4.1⟩
theorem rdTabC_rd {w : World} {v : Value} {x : Tab} (h : rdTabC w v x) : spTab.rd w v x := by
  obtain ⟨v2, rfl, h2⟩ := h
  exact ⟨v2, rfl, spIIc_rd h2⟩
theorem rdTabC_of {w : World} {S : Nat → Prop} {v : Value} {x : Tab} (h : spTab.own w S v x) : rdTabC w v x := by
  obtain ⟨v2, T, rfl, h2, _⟩ := h
  exact ⟨v2, rfl, (spIIc_own h2).1⟩
theorem rdTabC_below {w w' : World} {v : Value} {x : Tab} (h : rdTabC w v x) (hb : Below w.heap.size w w') : rdTabC w' v x := by
  obtain ⟨v2, rfl, h2⟩ := h
  exact ⟨v2, rfl, spIIc.rd_below h2 hb⟩
/-- The rows behind the first one without their entry c. -/
def Num.less (rows : List (List Int)) (c : Nat) : List (List Int) := (rows.drop 1).map (·.eraseIdx c)
theorem Num.less_length (rows : List (List Int)) (c : Nat) : (Num.less rows c).length = rows.length - 1 := by simp [Num.less]
theorem Num.less_take {rows : List (List Int)} {c k : Nat} (h : k + 1 < rows.length) : (Num.less rows c).take (k + 1) = (Num.less rows c).take k ++ [(rows.getD (k + 1) []).eraseIdx c] := by
  unfold Num.less
  rw [List.take_succ_eq_append_getElem (by simp; omega)]
  simp [h, Nat.add_comm]
theorem Num.less_len {rows : List (List Int)} {c n : Nat} (hl : ∀ i, i < rows.length → (rows.getD i []).length = n + 1) (hc : c < n + 1) : ∀ i, i < (Num.less rows c).length → ((Num.less rows c).getD i []).length = n := by
  intro i hi
  rw [Num.less_length] at hi
  have := hl (i + 1) (by omega)
  have e : (Num.less rows c).getD i [] = (rows.getD (i + 1) []).eraseIdx c := by
    unfold Num.less
    simp [List.getD_eq_getElem?_getD, show 1 + i < rows.length by omega, Nat.add_comm]
    rw [show rows[i + 1]? = some rows[i + 1] from List.getElem?_eq_getElem (by omega)]
    simp
  rw [e, List.length_eraseIdx, if_pos (by omega)]
  omega
theorem Num.altS_zero {f : Nat → Int} {c : Nat} (h : f c = 0) : Num.altS f (c + 1) = Num.altS f c := by
  show Num.altS f c + Num.sgA c * f c = _
  rw [h]; omega
set_option maxRecDepth 100000 in
set_option maxHeartbeats 4000000 in
theorem sDet_any : ∀ (n : Nat) (v : Value) (rows : List (List Int)) (w : World), n ≤ 4 → rows.length = n → Num.Small rows → (∀ i, i < rows.length → (rows.getD i []).length = n) → spIIc.rd w v rows →
    Calls Try.prog 89 #[v] w fun e w' => e = .returned (.int .i64 (Num.detL n rows)) ∧ Below w.heap.size w w'
  | 0, v, rows, w, _, hr, _, _, rv => by
    obtain ⟨A, c, rfl, -, -⟩ := rv
    obtain rfl := List.length_eq_zero_iff.mp hr
    go_enter Try.func89, Try.ntmps89
    go_wp2_with (fail)
    go_ret
    exact ⟨rfl, Below.refl _ _⟩
  | n + 1, v, rows, w, hn, hr, hs, hl, rv => by
    obtain ⟨j0, hi', hz0', hz1', hz2'⟩ := info_parts infoI
    obtain ⟨i0, hi, hz0, hz1, hz2⟩ := info_parts infoII
    have rv0 := rv
    obtain ⟨A, cA, rfl, -, -⟩ := rv0
    obtain ⟨g, o, B0, cB0, rfl, hg, hc0, hcap0, hrow⟩ := spIIc_row rv (j := 0) (by omega)
    have hl0 := hl 0 (by omega)
    have HLESS := Lib.hid (fun c (hc : c < n + 1) => Num.less_len hl hc)
    obtain ⟨N, hN⟩ : ∃ N, N = n + 1 := ⟨_, rfl⟩
    have HIH : Hid (∀ (v : Value) (rows : List (List Int)) (w : World), rows.length = n → Num.Small rows → (∀ i, i < rows.length → (rows.getD i []).length = n) → spIIc.rd w v rows →
      Calls Try.prog 89 #[v] w fun e w' => e = .returned (.int .i64 (Num.detL n rows)) ∧ Below w.heap.size w w') := Lib.hid fun v rows w h1 h2 h3 h4 => sDet_any n v rows w (by omega) h1 h2 h3 h4
    rw [← hN] at hr hn hl hl0 HLESS
    rw [hl0] at hc0 hcap0 hrow
    rw [Nat.add_zero] at hc0
    have HRV := Lib.hid rv
    rw [hr] at HRV
    have HN := Lib.hid hN
    have HS := Lib.hid hs
    have HRL := Lib.hid hr
    have HL := Lib.hid hl
    have HROW := Lib.hid hrow
    have HL0 := Lib.hid hl0
    have N0 : 0 < N := by omega
    have sN : (0 : Int) ≤ (N : Int) := by omega
    have n0 : ((N : Int) == 0) = false := by simp; omega
    rw [hr]
    clear rv hr hs hl hl0 hrow hN
    go_enter Try.func89, Try.ntmps89
    go_wp2_with (fail)
    go_loopw [4, 5, 6] (fun s4 s5 s6 wr => ∃ c : Nat, s6 = .int .i64 c ∧ c ≤ N ∧ s4 = .int .i64 (Num.altS (Num.term n rows) c) ∧ s5 = .int .i64 (Num.sgA c) ∧ Below w.heap.size w wr) (fun _ _ s6 _ => N - (intOf s6).toNat)
    case atStart => exact ⟨0, rfl, by omega, rfl, rfl, Below.refl _ _⟩
    case round =>
      obtain ⟨c, rfl, hc, rfl, rfl, bel⟩ := hrel
      by_cases hlt : c < N
      · obtain ⟨gr, or, rfl, hgr, hcr0⟩ := spI_at HROW.out (j := c) (by rw [HL0.out]; exact hlt)
        have hcr : wr.cell? ⟨gr, or + c, none⟩ = some (.int .i64 ((rows.getD 0 []).getD c 0)) := by rw [bel.cell hgr]; exact hcr0
        have hcb : wr.cell? ⟨g, o, none⟩ = some (.slice (some ⟨gr, or, none⟩) N cB0) := by rw [bel.cell hg]; exact hc0
        have c0 : (0 : Int) ≤ (c : Int) := by omega
        have c1 : (c : Int) < (N : Int) := by omega
        have HYB := Lib.hid (HS.out.get 0 c)
        have HS5 := Lib.hid (Num.altS_bd4 (n := n) (k := c) (by have := HN.out; omega) (by omega) HS.out)
        have HS6 := Lib.hid (Num.sgA_bd c)
        have HS7 := Lib.hid (Num.sgA_succ c)
        have HTM := Lib.hid (Num.term_mul n rows c)
        have HPG : Hid ((rows.getD 0 []).getD c 0 = 0 → Num.altS (Num.term n rows) (c + 1) = Num.altS (Num.term n rows) c) := Lib.hid fun e => Num.altS_zero (by show (rows.getD 0 []).getD c 0 * _ = 0; rw [e]; omega)
        have HPG2 : Hid (∀ D, D = Num.detL n ((rows.drop 1).map (·.eraseIdx c)) → Num.altS (Num.term n rows) c + Num.sgA c * (rows.getD 0 []).getD c 0 * D = Num.altS (Num.term n rows) (c + 1)) := Lib.hid fun D e => HTM.out _ D rfl e
        clear HTM
        generalize wr = W0 at *
        clear hcr0
        generalize hsum : Num.altS (Num.term n rows) c = sum at *
        generalize hsg : Num.sgA c = sg at *
        generalize hy : (rows.getD 0 []).getD c 0 = y at *
        have wr4 : IntKind.i64.wrap (-sg) = -sg := IntWalk.i64_in _ (by rcases HS6.out with e | e <;> rw [e] <;> decide)
        by_cases y0 : y = 0
        · have HE := Lib.hid (HPG.out y0)
          have T1 : (y != 0) = false := by simp [y0]
          clear HPG HPG2 hsum hsg hy y0
          go_wp2_with (fail)
          exact ⟨⟨c + 1, by go_num, by omega, by rw [HE.out], by rw [HS7.out], bel⟩, by simp [intOf]; omega⟩
        · have T1 : (y != 0) = true := by simpa using y0
          clear HPG y0 hsum hsg hy
          go_wp2_with (fail)
          go_loopw [7, 8] (fun s7 s8 w2 => ∃ (m : Nat) (S : Nat → Prop), s8 = .int .i64 m ∧ 1 ≤ m ∧ m ≤ N ∧ Hid (spII.own w2 S s7 ((Num.less rows c).take (m - 1))) ∧ Hid (∀ q, S q → W0.heap.size ≤ q) ∧ Below W0.heap.size W0 w2) (fun _ s8 _ => N - (intOf s8).toNat)
          case atStart => exact ⟨1, _, rfl, by omega, by omega, Lib.hid (spL_empty _ _ _ _), Lib.hid (fun q hq => by omega), by go_grown⟩
          case round =>
            obtain ⟨m, S, rfl, hm1, hm, HO, hSS, bw⟩ := hrel
            by_cases hltm : m < N
            · have m0 : (0 : Int) ≤ (m : Int) := by omega
              have m1 : (m : Int) < (N : Int) := by omega
              obtain ⟨gz, oz, B, cB, e1, hgz, hcz, hcap, hrz⟩ := spIIc_row (spIIc.rd_below (spIIc.rd_below HRV.out bel) bw) (j := m) (by rw [HRL.out]; exact hltm)
              simp only [Option.some.injEq, Addr.mk.injEq, and_true] at e1
              obtain ⟨rfl, rfl⟩ := e1
              have hln := HL.out m (by rw [HRL.out]; exact hltm)
              rw [hln] at hcz hcap hrz
              obtain ⟨gb, ob, rfl, hgb, -⟩ := spI_at hrz (j := c) (by rw [hln]; exact hlt)
              have HET := Lib.hid (Num.less_take (rows := rows) (c := c) (k := m - 1) (by rw [HRL.out]; omega))
              have ml : m - 1 + 1 = m := by omega
              rw [ml] at HET
              have hlj : ((Num.less rows c).take (m - 1)).length = m - 1 := by rw [List.length_take, Num.less_length, HRL.out]; omega
              have HLN := Lib.hid hln
              have HRZ := Lib.hid hrz
              generalize hrow : rows.getD m [] = row at *
              obtain ⟨A', c', e', -⟩ := spII.own_rd HO.out
              rw [hlj] at e'
              subst e'
              have HLJ := Lib.hid hlj
              generalize (Num.less rows c).take (m - 1) = PART at *
              have x1 : (c : Int) ≤ (cB : Int) := by omega
              have x2 : (c : Int) + 1 ≤ (N : Int) := by omega
              have x3 : (N : Int) ≤ (cB : Int) := by omega
              have x4 : (0 : Int) ≤ (c : Int) + 1 := by omega
              have x5 : ¬ ((c : Int) + 1 < 0) := by omega
              have x6 : (c : Int) + 1 ≤ (cB : Int) := by omega
              have wc1 : IntKind.i64.wrap ((c : Int) + 1) = (c : Int) + 1 := IntWalk.i64_in _ (by omega)
              have tn1 : ((c : Int) + 1).toNat = c + 1 := by omega
              obtain ⟨AD, hAD⟩ : ∃ AD, (if cB = c + 1 then some (⟨gb, ob, none⟩ : Addr) else some ⟨gb, ob + (c + 1), none⟩) = AD := ⟨_, rfl⟩
              have b0 : Below wr.heap.size wr (wr.alloc (.cells #[] 2)) := by go_grown
              have HO0 : Hid ((wr.alloc (.cells #[] 2)).ownsRow wr.heap.size 2 1 (.slice (some ⟨wr.heap.size, 0, none⟩) 0 0) 0 []) := Lib.hid (World.ownsRow_lit wr #[] 0 (Nat.le_refl _) (by unfold maxLen; omega) rfl)
              have HR1 : Hid (RdC (wr.alloc (.cells #[] 2)) (some ⟨gb, ob, none⟩) ((row.take c).map (Value.int .i64))) := Lib.hid (by
                obtain ⟨_, _, e9, _, h9⟩ := spI_take (k := c) (spI.rd_below HRZ.out b0) (by rw [HLN.out]; omega)
                simp only [Value.slice.injEq] at e9
                obtain ⟨rfl, -, -⟩ := e9
                exact h9.cells)
              have HT1 : Hid (((row.take c).map (Value.int .i64)).length = c) := Lib.hid (by have := HLN.out; simp; omega)
              clear hrz hln hlj hrow
              have HT2 : Hid (((row.drop (c + 1)).map (Value.int .i64)).length = N - (c + 1)) := Lib.hid (by have := HLN.out; simp; omega)
              have HEL : Hid ((row.eraseIdx c).length = c + (N - (c + 1))) := Lib.hid (by rw [List.length_eraseIdx, if_pos (by rw [HLN.out]; exact hlt), HLN.out]; omega)
              have HE1 : Hid ((row.eraseIdx c).map (Value.int .i64) = (row.take c).map (Value.int .i64) ++ (row.drop (c + 1)).map (Value.int .i64)) := Lib.hid (by rw [List.eraseIdx_eq_take_drop_succ, List.map_append])
              have HDR : Hid (∀ W, Below wr.heap.size wr W → RdC W AD ((row.drop (c + 1)).map (Value.int .i64))) := Lib.hid (fun W hW => by
                have h8 := spI_drop_if (c' := cB) (k := c + 1) (spI.rd_below HRZ.out hW) (by rw [HLN.out]; omega) (by omega)
                rw [hAD] at h8
                obtain ⟨_, _, e9, _, h9⟩ := h8
                simp only [Value.slice.injEq] at e9
                obtain ⟨rfl, -, -⟩ := e9
                exact h9.cells)
              have bws := bw.size
              go_wp2_with (first
                | (at_builtin; refine wpList_append_list _ rfl _ _ 25 rfl wr.heap.size 2 j0 (.int .i64 0) 8 Try.underlying25 hi' hz0' hz1' hz2' rfl (.slice (some ⟨wr.heap.size, 0, none⟩) 0 0) 0 [] rfl HO0.out (some ⟨gb, ob, none⟩) c cB ((row.take c).map (Value.int .i64)) HT1.out rfl HR1.out (oneCell_ints _) (by unfold maxLen; omega) (by omega) (by go_size) ?_; intro v3 w3 own3 gr3 at3; have L3 : Below wr.heap.size wr w3 := b0.grown gr3 (by go_size) (fun k hk => by simp [Value.ownBlock] at hk; omega); have hcz3 : w3.cell? ⟨g, o + m, none⟩ = some (.slice (some ⟨gb, ob, none⟩) N cB) := (by rw [L3.cell hgz]; exact hcz); have HR2 := Lib.hid (HDR.out w3 L3); have HO3 : Hid (w3.ownsRow wr.heap.size 2 1 v3 c ((row.take c).map (Value.int .i64))) := Lib.hid (by simpa using own3); clear own3 gr3 at3 HO0 HR1)
                | (at_builtin; refine wpList_append_list _ rfl _ _ 25 rfl wr.heap.size 2 j0 (.int .i64 0) 8 Try.underlying25 hi' hz0' hz1' hz2' rfl v3 c ((row.take c).map (Value.int .i64)) rfl HO3.out AD (N - (c + 1)) (cB - (c + 1)) ((row.drop (c + 1)).map (Value.int .i64)) HT2.out rfl HR2.out (oneCell_ints _) (by unfold maxLen; omega) (by omega) L3.size ?_; intro v4 w4 own4 gr4 at4; have L4 : Below wr.heap.size wr w4 := L3.grown gr4 L3.size (fun k hk => (World.ownsRow.lt HO3.out k hk).1); obtain ⟨U, cU, rfl, -⟩ := ownsRow_cap own4; obtain ⟨S2, hS2, ow4⟩ : ∃ S2 : Nat → Prop, (∀ k, S2 k → wr.heap.size ≤ k) ∧ spI.own w4 S2 (.slice U (c + (N - (c + 1))) cU) (row.eraseIdx c) := ⟨fun k => (Value.slice U (c + (N - (c + 1))) cU).ownBlock = some k, fun k h => (World.ownsRow.lt own4 k h).1, (by rw [HEL.out, HE1.out]; exact ownsRow_base own4 (Nat.zero_le _)), fun k h => h, fun k h => (World.ownsRow.lt own4 k h).2⟩; have o2 := spII.own_below HO.out L4; obtain ⟨vs3, hvs, hpush⟩ := spL_push o2 ow4 (fun k h1 h2 => by have := spII.own_lt HO.out h1; have := hS2 k h2; omega); rw [HLJ.out] at hvs hpush; have HVS := Lib.hid (hvs.alloc (.cells #[.slice U (c + (N - (c + 1))) cU] 25)); have HP := Lib.hid hpush; have HB := Lib.hid (fun k (hk : (Value.slice A' (m - 1) c').ownBlock = some k) => hSS.out k (by obtain ⟨_, _, _, _, _, _, h5, _⟩ := HO.out; exact h5 k hk)); clear hvs hpush o2 own4 gr4 at4 HO3 HR2 ow4 hcz3)
                | (at_builtin; refine wpList_append_lies _ rfl _ _ 22 rfl 0 25 i0 (.slice none 0 0) 1 24 Try.underlying22 hi hz0 hz1 hz2 rfl (by decide) (.slice A' (m - 1) c') (m - 1) vs3 rfl HVS.out ⟨_, 0, none⟩ 1 1 [.slice U (c + (N - (c + 1))) cU] rfl rfl (cell_one_new _ _ _) (by simp [Value.oneCell']) (by decide) (by unfold maxLen; omega) (by omega) (Nat.zero_le _) _ rfl ?_; intro g3 cap3 w5 own5 gr5 at5 lt5))
              have L4s := L4.size
              have OW3 := Lib.hid (HP.out _ _ _ g3 ((Below.refl _ _).alloc (Nat.le_refl _) _) own5 gr5 rfl (by rcases at5 with h' | h'; exact .inl h'; exact .inr (by simp at h' ⊢; omega)) lt5)
              have HS3 : Hid (∀ k, (S k ∨ S2 k ∨ k = g3) → W0.heap.size ≤ k) := Lib.hid (fun k hk => by
                rcases hk with hk | hk | hk
                · exact hSS.out _ hk
                · have := hS2 _ hk; omega
                · rcases at5 with h' | h'
                  · rw [hk]; exact HB.out _ h'
                  · simp at h'; omega)
              have bel5 : Below W0.heap.size W0 w5 := ((bw.trans (L4.mono bws)).alloc (by omega) _).grown gr5 (by simp; omega) HB.out
              clear own5 gr5 at5 lt5 HVS HP HB
              go_wp2_with (fail)
              exact ⟨⟨m + 1, _, by go_num, by omega, by omega, Lib.hid (by have h9 := OW3.out; rw [ml] at h9; rw [show m + 1 - 1 = m by omega, HET.out]; exact h9), HS3, bel5⟩, by simp [intOf]; omega⟩
            · obtain rfl : m = N := by omega
              have hge : ¬ ((m : Int) < (m : Int)) := by omega
              have HEA : Hid ((Num.less rows c).take (m - 1) = Num.less rows c) := Lib.hid (List.take_of_length_le (by rw [Num.less_length, HRL.out]; omega))
              rw [HEA.out] at HO
              obtain ⟨A', c', e', -⟩ := spII.own_rd HO.out
              subst e'
              have HMM : Hid (∀ W, Below wr.heap.size wr W → Calls Try.prog 89 #[.slice A' (Num.less rows c).length c'] W fun e w' => e = .returned (.int .i64 (Num.detL n (Num.less rows c))) ∧ Below W.heap.size W w') := Lib.hid fun W hW => HIH.out _ (Num.less rows c) W (by rw [Num.less_length, HRL.out, HN.out]; rfl) (HS.out.minor c) (HLESS.out c hlt) (spIIc.rd_below (spIIc_own HO.out).1 hW)
              have HDB := Lib.hid (Num.detL_bd3 (n := n) (rows := Num.less rows c) (by have := HN.out; omega) (HS.out.minor c))
              have HE := Lib.hid (HPG2.out (Num.detL n (Num.less rows c)) rfl)
              have hcb2 : wr.cell? ⟨g, o, none⟩ = some (.slice (some ⟨gr, or, none⟩) m cB0) := by rw [bw.cell (Nat.lt_of_lt_of_le hg bel.size)]; exact hcb
              have hcr2 : wr.cell? ⟨gr, or + c, none⟩ = some (.int .i64 y) := by rw [bw.cell (Nat.lt_of_lt_of_le hgr bel.size)]; exact hcr
              have bws := bw.size
              have bels := bel.size
              have LW : Below w.heap.size w wr := bstep bel bel.size bw
              clear HPG2 HO hSS HEA hcb hcr
              generalize (Num.less rows c).length = LL at *
              generalize Num.detL n (Num.less rows c) = D at *
              have HP1 := Lib.hid (Num.sgy_bd HS6.out HYB.out)
              have HP2 := Lib.hid (Num.yD_bd HP1.out HDB.out)
              have hp1 := HP1.out
              have hp2 := HP2.out
              have hp3 := HS5.out
              have wr1' : IntKind.i64.wrap (sg * y) = sg * y := IntWalk.i64_in _ (by omega)
              have wr2 : IntKind.i64.wrap (sg * y * D) = sg * y * D := IntWalk.i64_in _ (by omega)
              have wr3 : IntKind.i64.wrap (sum + sg * y * D) = sum + sg * y * D := IntWalk.i64_in _ (by omega)
              clear hp1 hp2 hp3 HP1 HP2 HS5 HYB
              go_wp2_with (fail)
              go_region_held3 (fun wx => wx.cell? ⟨g, o, none⟩ = some (.slice (some ⟨gr, or, none⟩) m cB0) ∧ wx.cell? ⟨gr, or + c, none⟩ = some (.int .i64 y)) (first | go_keep | assumption) (first | (go_at_call 89; refine (HMM.out _ ((Below.refl _ _).drew)).mono ?_; rintro e w4 ⟨rfl, hb4⟩; have L4 := bstep ((Below.refl wr.heap.size wr).drew) ((Below.refl wr.heap.size wr).drew).size hb4; have SM4 : w4.cell? ⟨g, o, none⟩ = some (.slice (some ⟨gr, or, none⟩) m cB0) ∧ w4.cell? ⟨gr, or + c, none⟩ = some (.int .i64 y) := ⟨(by rw [L4.cell (Nat.lt_of_lt_of_le hg (Nat.le_trans bels bws))]; exact hcb2), (by rw [L4.cell (Nat.lt_of_lt_of_le hgr (Nat.le_trans bels bws))]; exact hcr2)⟩))
              all_goals
                have L5 := bstep LW LW.size L4
                go_wp2_with (fail)
                exact ⟨⟨c + 1, by go_num, by omega, by rw [← HE.out], by rw [HS7.out], L5⟩, by simp [intOf]; omega⟩
      · obtain rfl : c = N := by omega
        have hge : ¬ ((c : Int) < (c : Int)) := by omega
        have HE : Hid (Num.detL (n + 1) rows = Num.altS (Num.term n rows) c) := Lib.hid (by rw [HN.out]; rfl)
        generalize Num.altS (Num.term n rows) c = sum at *
        go_wp2_with (fail)
        go_ret
        exact ⟨ret_i HE.out.symm, bel⟩
end Go.Proofs.Ytihdidbikeaafaa
