/- The model's StandardComplement. -/
import Derived.Test.YtggkoihlmijacaaL03D
import Derived.Test.YtggkoihlmijacaaL04C
import Derived.Test.YtggkoihlmijacaaL02L
import Derived.Test.YtggkoihlmijacaaL03G
import Derived.Test.YtggkoihlmijacaaL05C
namespace Go.Proofs.Ytggkoihlmijacaa
open Go.RowKit
set_option linter.unusedVariables false
set_option linter.unusedSimpArgs false

theorem Num.lead_mem {R : List (List Int)} {j : Nat} : j ∈ R.map Num.lead ↔ ∃ i, i < R.length ∧ Num.lead (R.getD i []) = j := by
  rw [List.mem_map]
  constructor
  · rintro ⟨r, hr, e⟩
    obtain ⟨i, hi, e2⟩ := List.getElem_of_mem hr
    exact ⟨i, hi, by rw [Num.getD_lt _ _ hi, e2]; exact e⟩
  · rintro ⟨i, hi, e⟩
    exact ⟨_, Num.mem_getD [] hi, e⟩
set_option maxRecDepth 100000 in
set_option maxHeartbeats 8000000 in
theorem sStandardComplement_ok (v0 : Value) (x0 : Mat) (w : World) (h0 : spMat.rd w v0 x0) (s0 : spMat.sz x0 ≤ 1048576) : Calls Try.prog 30 #[v0] w (MadeC spMat (rStandardComplement x0) (cStandardComplement x0) w) := by
  obtain ⟨i0, hi, hz0, hz1, hz2⟩ := info_parts infoII
  obtain ⟨A0, n0, c0, rfl, r0⟩ := spMat_form h0
  obtain ⟨rfl, -, -, -⟩ := rdII_of r0
  have L : Below w.heap.size w ((w.alloc (.cells [.int .i64 x0.P, .int .i64 x0.C, .slice A0 x0.R.length c0].toArray 27)).alloc (.cells [.int .i64 0, .int .i64 0, .slice none 0 0].toArray 27)) := by go_grown
  have Ba0 : Blk ((w.alloc (.cells [.int .i64 x0.P, .int .i64 x0.C, .slice A0 x0.R.length c0].toArray 27)).alloc (.cells [.int .i64 0, .int .i64 0, .slice none 0 0].toArray 27)) w.heap.size [.int .i64 x0.P, .int .i64 x0.C, .slice A0 x0.R.length c0] 27 := by have := (Blk.new w [.int .i64 x0.P, .int .i64 x0.C, .slice A0 x0.R.length c0] 27).alloc (.cells [.int .i64 0, .int .i64 0, .slice none 0 0].toArray 27); simpa only [World.size_alloc] using this
  have Br : Blk ((w.alloc (.cells [.int .i64 x0.P, .int .i64 x0.C, .slice A0 x0.R.length c0].toArray 27)).alloc (.cells [.int .i64 0, .int .i64 0, .slice none 0 0].toArray 27)) (w.heap.size + 1) [.int .i64 0, .int .i64 0, .slice none 0 0] 27 := by have := Blk.new (w.alloc (.cells [.int .i64 x0.P, .int .i64 x0.C, .slice A0 x0.R.length c0].toArray 27)) [.int .i64 0, .int .i64 0, .slice none 0 0] 27; simpa only [World.size_alloc] using this
  have K0 := Lib.hid (spMat.rd_below h0 L)
  have R0 := Lib.hid (spII.rd_below r0 L)
  clear h0 r0
  cases hk0 : x0.sub with
  | false =>
    have HEC : Hid (cStandardComplement x0 = 1) := Lib.hid (by unfold cStandardComplement; simp [hk0])
    have HER : Hid (rStandardComplement x0 = noMat) := Lib.hid (by unfold rStandardComplement; simp [hk0])
    have HC := Lib.hid (sIsSub_no _ x0 _ K0.out hk0)
    clear hk0
    go_enter Try.func30, Try.ntmps30
    go_wp2_with (fail)
    refine (HC.out).mono ?_; rintro e w1 ⟨rfl, hb⟩
    replace L := bstep L L.size hb
    replace Ba0 := Ba0.below hb
    replace Br := Br.below hb
    replace K0 := Lib.hid (spMat.rd_below K0.out hb)
    replace R0 := Lib.hid (spII.rd_below R0.out hb)
    clear hb
    obtain ⟨bla0, qa00, qa01, qa02⟩ := Ba0.c3
    obtain ⟨blr, qr0, qr1, qr2⟩ := Br.c3
    obtain ⟨f0, f1, f2⟩ := Br.f3
    go_wp2_with (fail)
    refine bodyPost_ret (v := .tuple #[.agg #[.int .i64 0, .int .i64 0, .slice none 0 0], .int .i64 1]) (by simp [results, Try.results30, go_sem, bla0, qa00, qa01, qa02, blr, qr0, qr1, qr2]) rfl ?_
    rw [HER.out, HEC.out]
    exact MadeC.none rfl ((((L).setCell (p := ⟨(w.heap.size + 1), 0, none⟩) (by simp; try omega) _).setCell (p := ⟨(w.heap.size + 1), 1, none⟩) (by simp; try omega) _).setCell (p := ⟨(w.heap.size + 1), 2, none⟩) (by simp; try omega) _)
  | true =>
    have HC := Lib.hid (sIsSub_yes _ x0 _ K0.out hk0)
    obtain ⟨g1, g2, g3, g4, g5, g6, g7⟩ := Mat.sub_out hk0
    have fl := Num.freeTo_len (x0.R.map Num.lead) x0.C.toNat
    have eC : ((x0.C.toNat : Nat) : Int) = x0.C := by omega
    have HEC : Hid (cStandardComplement x0 = 0) := Lib.hid (by unfold cStandardComplement; simp [hk0])
    have HER := Lib.hid (compl_eq hk0)
    have HCB : Hid (spMat.cnt ⟨x0.P, x0.C, Num.unitsV x0.C.toNat (Num.freeTo (x0.R.map Num.lead) x0.C.toNat)⟩ ≤ 1000000000) := Lib.hid (cnt_bd unitsV_len (by rw [Num.unitsV_length]; omega) (by omega))
    have hsz : spII.sz (Num.unitsV x0.C.toNat (Num.freeTo (x0.R.map Num.lead) x0.C.toNat)) ≤ 1048576 := sz_bd unitsV_len (by rw [Num.unitsV_length]; omega) (by omega)
    have H1 : Hid (∀ W, Calls Try.prog 73 #[.int .i64 x0.C] W (Made spII (Num.unitR x0.C.toNat) W)) := Lib.hid fun W => by
      have := sUnit_any x0.C.toNat W (by omega)
      rwa [eC] at this
    have H3 : Hid (∀ W u, spII.rd W u (Num.unitsV x0.C.toNat (Num.freeTo (x0.R.map Num.lead) x0.C.toNat)) → Calls Try.prog 61 #[.int .i64 x0.P, .int .i64 x0.C, u] W (Made spMat ⟨x0.P, x0.C, Num.unitsV x0.C.toNat (Num.freeTo (x0.R.map Num.lead) x0.C.toNat)⟩ W)) := Lib.hid fun W u hu => sMake_any x0.P x0.C u _ W hu hsz
    have HSO : Hid (∀ i j, i < j → j < x0.R.length → Num.lead (x0.R.getD i []) < Num.lead (x0.R.getD j [])) := Lib.hid g7.sorted
    have HRL : Hid (∀ j, j < x0.R.length → (x0.R.getD j []).length ≤ 8) := Lib.hid fun j hj => by rw [(g7.vec j hj).len]; omega
    have HUL := Lib.hid (Num.unitR_length x0.C.toNat)
    have HUG : Hid (∀ i, i < x0.C.toNat → (Num.unitR x0.C.toNat).getD i [] = Num.unitV x0.C.toNat i) := Lib.hid fun i hi => by
      rw [Num.getD_lt _ _ (by rw [Num.unitR_length]; exact hi)]
      simp [Num.unitR]
    have HLM : Hid (∀ j, j ∈ x0.R.map Num.lead ↔ ∃ i, i < x0.R.length ∧ Num.lead (x0.R.getD i []) = j) := Lib.hid fun j => Num.lead_mem
    have ne1 : ¬ (w.heap.size = w.heap.size + 1) := by omega
    have ne2 : ¬ (w.heap.size + 1 = w.heap.size) := by omega
    have hn8 : x0.C.toNat ≤ 8 := by omega
    have hR8 : x0.R.length ≤ 8 := g6
    have HeC := Lib.hid eC
    clear hk0 g1 g2 g3 g4 g5 g6 g7 fl eC hsz
    generalize Num.unitR x0.C.toNat = N at *
    generalize x0.R.map Num.lead = leads at *
    generalize x0.C.toNat = n at *
    go_enter Try.func30, Try.ntmps30
    go_wp2_with (fail)
    refine (HC.out).mono ?_; rintro e w1 ⟨rfl, hb⟩
    replace L := bstep L L.size hb
    replace Ba0 := Ba0.below hb
    replace Br := Br.below hb
    replace K0 := Lib.hid (spMat.rd_below K0.out hb)
    replace R0 := Lib.hid (spII.rd_below R0.out hb)
    clear hb
    obtain ⟨bla0, qa00, qa01, qa02⟩ := Ba0.c3
    obtain ⟨blr, qr0, qr1, qr2⟩ := Br.c3
    obtain ⟨f0, f1, f2⟩ := Br.f3
    go_wp2_with (fail)
    refine (H1.out _).mono ?_; rintro e w2 ⟨un, Sn, rfl, own, hSn, hbn⟩
    clear bla0 qa00 qa01 qa02
    clear blr qr0 qr1 qr2
    clear f0 f1 f2
    obtain ⟨An, cn, rfl, -, -⟩ := spII.own_rd own
    have HN := Lib.hid own
    rw [HUL.out]
    clear own hSn H1
    replace L := bstep L L.size hbn
    replace Ba0 := Ba0.below hbn
    replace Br := Br.below hbn
    replace K0 := Lib.hid (spMat.rd_below K0.out hbn)
    replace R0 := Lib.hid (spII.rd_below R0.out hbn)
    clear hbn
    obtain ⟨bla0, qa00, qa01, qa02⟩ := Ba0.c3
    obtain ⟨blr, qr0, qr1, qr2⟩ := Br.c3
    obtain ⟨f0, f1, f2⟩ := Br.f3
    go_wp2_with (fail)
    go_loopw [5, 6, 7] (fun s5 s6 s7 wr => ∃ (j nx : Nat) (vs : List Value), s7 = .int .i64 j ∧ s6 = .int .i64 nx ∧ j ≤ n ∧ nx ≤ x0.R.length ∧ Hid (wr.ownsRow w2.heap.size 31 1 s5 (Num.freeTo leads j).length vs) ∧ Hid (∀ i, i < (Num.freeTo leads j).length → spI.rd w2 (vs.getD i undef) (Num.unitV n ((Num.freeTo leads j).getD i 0))) ∧ Hid ((∀ i, i < nx → Num.lead (x0.R.getD i []) < j) ∧ (∀ i, nx ≤ i → i < x0.R.length → j ≤ Num.lead (x0.R.getD i []))) ∧ Below w2.heap.size w2 wr) (fun _ _ s7 _ => n - (intOf s7).toNat)
    case atStart => exact ⟨0, 0, [], rfl, rfl, by omega, by omega, Lib.hid (World.ownsRow_lit _ #[] _ (Nat.le_refl _) (by unfold maxLen; omega) rfl), Lib.hid (fun i hi => absurd hi (by simp [Num.freeTo])), Lib.hid ⟨fun i hi => by omega, fun i _ _ => by omega⟩, by go_grown⟩
    case round =>
      obtain ⟨j, nx, vs, rfl, rfl, hj, hnx, HO, HV, HIN, bel⟩ := hrel
      clear bla0 qa00 qa01 qa02
      clear blr qr0 qr1 qr2
      clear f0 f1 f2
      have BXa := Ba0.below bel
      obtain ⟨bl4, qa0, qa1, qa2⟩ := BXa.c3
      have R0' := Lib.hid (spII.rd_below R0.out bel)
      by_cases hlt : j < n
      · have j0 : (0 : Int) ≤ (j : Int) := by omega
        have j1 : (j : Int) < (n : Int) := by omega
        have k0 : (0 : Int) ≤ (nx : Int) := by omega
        by_cases hnl : nx < x0.R.length
        · have k1 : (nx : Int) < (x0.R.length : Int) := by omega
          obtain ⟨gq, oq, uq, rfl, hgq, hcq, hruq⟩ := spL_row R0'.out hnl
          obtain ⟨Bq, cq, rfl, -, -⟩ := spI_form hruq
          have HL := Lib.hid (sLead_any _ (x0.R.getD nx []) wr hruq (by have := HRL.out nx hnl; omega))
          clear hruq
          by_cases hld : Num.lead (x0.R.getD nx []) = j
          · have HME : Hid (j ∈ leads) := Lib.hid ((HLM.out j).2 ⟨nx, hnl, hld⟩)
            have ET := Lib.hid (Num.freeTo_no HME.out)
            have HI2 : Hid ((∀ i, i < nx + 1 → Num.lead (x0.R.getD i []) < j + 1) ∧ (∀ i, nx + 1 ≤ i → i < x0.R.length → j + 1 ≤ Num.lead (x0.R.getD i []))) := Lib.hid ⟨fun i hi => by
              rcases Nat.lt_or_ge i nx with h | h
              · have := HIN.out.1 i h; omega
              · obtain rfl : i = nx := by omega
                omega, fun i h1 h2 => by have := HSO.out nx i (by omega) h2; omega⟩
            have HO3 : Hid (wr.ownsRow w2.heap.size 31 1 _ (Num.freeTo leads (j + 1)).length vs) := Lib.hid (by rw [ET.out]; exact HO.out)
            have HV3 : Hid (∀ i, i < (Num.freeTo leads (j + 1)).length → spI.rd w2 (vs.getD i undef) (Num.unitV n ((Num.freeTo leads (j + 1)).getD i 0))) := Lib.hid (by rw [ET.out]; exact HV.out)
            have HLD := Lib.hid hld
            rw [hld] at HL
            clear hld
            generalize (x0.R.getD nx []).length = ln at *
            go_wp2_with (fail)
            refine HL.out.mono ?_; rintro e w9 ⟨rfl, rfl⟩
            go_wp2_with (fail)
            exact ⟨⟨j + 1, nx + 1, vs, by go_num, by go_num, by omega, by omega, HO3, HV3, HI2, bel⟩, by simp [intOf]; omega⟩
          · have hlb := HIN.out.2 nx (Nat.le_refl _) hnl
            have HNM : Hid (¬ j ∈ leads) := Lib.hid fun h => by
              obtain ⟨i, hi, e⟩ := (HLM.out j).1 h
              rcases Nat.lt_trichotomy i nx with h1 | h1 | h1
              · have := HIN.out.1 i h1; omega
              · rw [h1] at e; omega
              · have := HSO.out nx i h1 hi; omega
            have HI2 : Hid ((∀ i, i < nx → Num.lead (x0.R.getD i []) < j + 1) ∧ (∀ i, nx ≤ i → i < x0.R.length → j + 1 ≤ Num.lead (x0.R.getD i []))) := Lib.hid ⟨fun i hi => by have := HIN.out.1 i hi; omega, fun i h1 h2 => by
              rcases Nat.lt_or_ge nx i with h | h
              · have := HSO.out nx i h h2; omega
              · obtain rfl : i = nx := by omega
                omega⟩
            have ET := Lib.hid (Num.freeTo_yes HNM.out)
            obtain ⟨gz, cz, u, T, e1, -, hgl, hcz, -, hu, -, -⟩ := spL_own_at (spII.own_below HN.out bel) (by rw [HUL.out]; exact hlt)
            simp only [Value.slice.injEq] at e1
            obtain ⟨rfl, -, rfl⟩ := e1
            rw [HUG.out j hlt] at hu
            have ul := Num.unitV_length n j
            obtain ⟨gu, cu, rfl, hcap, hcm, hgu, -⟩ := spI_own_cap hu (by omega)
            rw [ul] at hcz hu hcap
            unfold maxLen at hcm
            have HUO : Hid (spI.rd w2 (.slice (some ⟨gu, 0, none⟩) n cu) (Num.unitV n j)) := Lib.hid (by
              obtain ⟨g', cg', u', T', e1', -, hgl', hcz', -, hu', -, -⟩ := spL_own_at HN.out (by rw [HUL.out]; exact hlt)
              simp only [Value.slice.injEq] at e1'
              obtain ⟨e2, -, rfl⟩ := e1'
              have e3 : g' = gz := by simpa using e2.symm
              subst e3
              rw [bel.cell hgl', hcz'] at hcz
              obtain rfl := Option.some.inj hcz
              rw [HUG.out j hlt] at hu'
              exact spI.own_rd hu')
            have hvl : Hid (vs.length = (Num.freeTo leads j).length) := Lib.hid (by have := HO.out.1; simpa using this)
            have hml := Num.freeTo_len leads j
            have HOA := Lib.hid (HO.out.alloc (.cells #[.slice (some ⟨gu, 0, none⟩) n cu] 31))
            clear hu ul hcap
            have tE : ((Num.lead (x0.R.getD nx []) : Int) == (j : Int)) = false := by rw [beq_eq_false_iff_ne]; omega
            clear hlb hld
            generalize Num.lead (x0.R.getD nx []) = ld at *
            generalize (x0.R.getD nx []).length = ln at *
            go_wp2_with (fail)
            refine HL.out.mono ?_; rintro e w9 ⟨rfl, rfl⟩
            go_wp2_with (first | (at_builtin; refine wpList_append_lies _ rfl _ _ 22 rfl w2.heap.size 31 i0 (.slice none 0 0) 1 24 Try.underlying22 hi hz0 hz1 hz2 rfl (by decide) _ _ vs rfl HOA.out ⟨_, 0, none⟩ 1 1 [.slice (some ⟨gu, 0, none⟩) n cu] rfl rfl (cell_one_new _ _ _) (by simp [Value.oneCell']) (by decide) (by unfold maxLen; omega) (by omega) (by have := bel.size; simp; omega) _ rfl ?_; intro g3 cap3 w3' own3 gr3 at3 lt3))
            have HEL : Hid ((Num.freeTo leads (j + 1)).length = (Num.freeTo leads j).length + 1) := Lib.hid (by rw [ET.out, List.length_append]; rfl)
            have HO3 : Hid (w3'.ownsRow w2.heap.size 31 1 (.slice (some ⟨g3, 0, none⟩) ((Num.freeTo leads j).length + 1) cap3) (Num.freeTo leads (j + 1)).length (vs ++ [.slice (some ⟨gu, 0, none⟩) n cu])) := Lib.hid (by rw [HEL.out]; exact own3)
            have bel3 : Below w2.heap.size w2 w3' := (bel.alloc bel.size _).grown gr3 (by have := bel.size; simp; omega) (fun k hk => (World.ownsRow.lt HO.out k hk).1)
            have HV3 : Hid (∀ i, i < (Num.freeTo leads (j + 1)).length → spI.rd w2 ((vs ++ [Value.slice (some ⟨gu, 0, none⟩) n cu]).getD i undef) (Num.unitV n ((Num.freeTo leads (j + 1)).getD i 0))) := Lib.hid (fun i hi => by
              have hv := hvl.out
              rw [HEL.out] at hi
              rw [ET.out]
              by_cases e : i < (Num.freeTo leads j).length
              · have e2 : (Num.freeTo leads j ++ [j]).getD i 0 = (Num.freeTo leads j).getD i 0 := by rw [List.getD_eq_getElem?_getD, List.getElem?_append_left e, ← List.getD_eq_getElem?_getD]
                rw [e2, List.getD_eq_getElem?_getD, List.getElem?_append_left (by omega), ← List.getD_eq_getElem?_getD]
                exact HV.out i e
              · obtain rfl : i = (Num.freeTo leads j).length := by omega
                have e2 : (Num.freeTo leads j ++ [j]).getD (Num.freeTo leads j).length 0 = j := by simp [List.getD_eq_getElem?_getD]
                rw [e2, List.getD_eq_getElem?_getD, List.getElem?_append_right (by omega), hv]
                simpa using HUO.out)
            clear own3 gr3 at3 lt3 hcz
            go_wp2_with (fail)
            exact ⟨⟨j + 1, nx, _, by go_num, by go_num, by omega, by omega, HO3, HV3, HI2, bel3⟩, by simp [intOf]; omega⟩
        · have k1 : ¬ ((nx : Int) < (x0.R.length : Int)) := by omega
          have HNM : Hid (¬ j ∈ leads) := Lib.hid fun h => by
            obtain ⟨i, hi, e⟩ := (HLM.out j).1 h
            have := HIN.out.1 i (by omega); omega
          have HI2 : Hid ((∀ i, i < nx → Num.lead (x0.R.getD i []) < j + 1) ∧ (∀ i, nx ≤ i → i < x0.R.length → j + 1 ≤ Num.lead (x0.R.getD i []))) := Lib.hid ⟨fun i hi => by have := HIN.out.1 i hi; omega, fun i h1 h2 => by omega⟩
          have ET := Lib.hid (Num.freeTo_yes HNM.out)
          obtain ⟨gz, cz, u, T, e1, -, hgl, hcz, -, hu, -, -⟩ := spL_own_at (spII.own_below HN.out bel) (by rw [HUL.out]; exact hlt)
          simp only [Value.slice.injEq] at e1
          obtain ⟨rfl, -, rfl⟩ := e1
          rw [HUG.out j hlt] at hu
          have ul := Num.unitV_length n j
          obtain ⟨gu, cu, rfl, hcap, hcm, hgu, -⟩ := spI_own_cap hu (by omega)
          rw [ul] at hcz hu hcap
          unfold maxLen at hcm
          have HUO : Hid (spI.rd w2 (.slice (some ⟨gu, 0, none⟩) n cu) (Num.unitV n j)) := Lib.hid (by
            obtain ⟨g', cg', u', T', e1', -, hgl', hcz', -, hu', -, -⟩ := spL_own_at HN.out (by rw [HUL.out]; exact hlt)
            simp only [Value.slice.injEq] at e1'
            obtain ⟨e2, -, rfl⟩ := e1'
            have e3 : g' = gz := by simpa using e2.symm
            subst e3
            rw [bel.cell hgl', hcz'] at hcz
            obtain rfl := Option.some.inj hcz
            rw [HUG.out j hlt] at hu'
            exact spI.own_rd hu')
          have hvl : Hid (vs.length = (Num.freeTo leads j).length) := Lib.hid (by have := HO.out.1; simpa using this)
          have hml := Num.freeTo_len leads j
          have HOA := Lib.hid (HO.out.alloc (.cells #[.slice (some ⟨gu, 0, none⟩) n cu] 31))
          clear hu ul hcap
          go_wp2_with (first | (at_builtin; refine wpList_append_lies _ rfl _ _ 22 rfl w2.heap.size 31 i0 (.slice none 0 0) 1 24 Try.underlying22 hi hz0 hz1 hz2 rfl (by decide) _ _ vs rfl HOA.out ⟨_, 0, none⟩ 1 1 [.slice (some ⟨gu, 0, none⟩) n cu] rfl rfl (cell_one_new _ _ _) (by simp [Value.oneCell']) (by decide) (by unfold maxLen; omega) (by omega) (by have := bel.size; simp; omega) _ rfl ?_; intro g3 cap3 w3' own3 gr3 at3 lt3))
          have HEL : Hid ((Num.freeTo leads (j + 1)).length = (Num.freeTo leads j).length + 1) := Lib.hid (by rw [ET.out, List.length_append]; rfl)
          have HO3 : Hid (w3'.ownsRow w2.heap.size 31 1 (.slice (some ⟨g3, 0, none⟩) ((Num.freeTo leads j).length + 1) cap3) (Num.freeTo leads (j + 1)).length (vs ++ [.slice (some ⟨gu, 0, none⟩) n cu])) := Lib.hid (by rw [HEL.out]; exact own3)
          have bel3 : Below w2.heap.size w2 w3' := (bel.alloc bel.size _).grown gr3 (by have := bel.size; simp; omega) (fun k hk => (World.ownsRow.lt HO.out k hk).1)
          have HV3 : Hid (∀ i, i < (Num.freeTo leads (j + 1)).length → spI.rd w2 ((vs ++ [Value.slice (some ⟨gu, 0, none⟩) n cu]).getD i undef) (Num.unitV n ((Num.freeTo leads (j + 1)).getD i 0))) := Lib.hid (fun i hi => by
            have hv := hvl.out
            rw [HEL.out] at hi
            rw [ET.out]
            by_cases e : i < (Num.freeTo leads j).length
            · have e2 : (Num.freeTo leads j ++ [j]).getD i 0 = (Num.freeTo leads j).getD i 0 := by rw [List.getD_eq_getElem?_getD, List.getElem?_append_left e, ← List.getD_eq_getElem?_getD]
              rw [e2, List.getD_eq_getElem?_getD, List.getElem?_append_left (by omega), ← List.getD_eq_getElem?_getD]
              exact HV.out i e
            · obtain rfl : i = (Num.freeTo leads j).length := by omega
              have e2 : (Num.freeTo leads j ++ [j]).getD (Num.freeTo leads j).length 0 = j := by simp [List.getD_eq_getElem?_getD]
              rw [e2, List.getD_eq_getElem?_getD, List.getElem?_append_right (by omega), hv]
              simpa using HUO.out)
          clear own3 gr3 at3 lt3 hcz
          go_wp2_with (fail)
          exact ⟨⟨j + 1, nx, _, by go_num, by go_num, by omega, by omega, HO3, HV3, HI2, bel3⟩, by simp [intOf]; omega⟩
      · obtain rfl : j = n := by omega
        have hge : ¬ ((j : Int) < (j : Int)) := by omega
        have HF := Lib.hid (rd_of_rows (s := spI) (nul := []) (xs := Num.unitsV j (Num.freeTo leads j)) HO.out (Num.unitsV_length _ _) (fun i hi => by rw [Num.unitsV_get hi]; exact spI.rd_below (HV.out i hi) bel))
        have hf0 := HF.out
        obtain ⟨Af, cf, hsf, -, -⟩ := hf0
        rw [Num.unitsV_length] at hsf
        subst hsf
        have BXr := Br.below bel
        replace L := bstep L L.size bel
        generalize (Num.freeTo leads j).length = fl at *
        go_wp2_with (fail)
        refine (H3.out _ _ (show spII.rd _ _ _ from HF.out)).mono ?_; rintro e w4 ⟨um, Sm, rfl, ⟨vm, Tm, rfl, om, subm, -⟩, hSm, hbm⟩
        obtain ⟨Am, cm, rfl, -, -⟩ := spII.own_rd om
        have Brz := BXr.below hbm
        obtain ⟨blr, qr0, qr1, qr2⟩ := Brz.c3
        obtain ⟨f0, f1, f2⟩ := Brz.f3
        have LC1 := hbm
        have LC0 := L
        have bls := bel.size
        have LZ := bstep L L.size hbm
        have ltz := BXr.lt
        have hqL := L.size
        have HT : Hid (∀ k, Tm k → w.heap.size ≤ k) := Lib.hid fun k h => by have := hSm k (subm k h); omega
        have nT : ¬ Tm (w.heap.size + 1) := fun h => by have := hSm _ (subm _ h); omega
        have HOm := Lib.hid om
        clear om subm hSm qa0 qa1 qa2 bl4
        generalize Num.unitsV j (Num.freeTo leads j) = RU at *
        go_wp2_with (fail)
        refine bodyPost_ret (v := .tuple #[.agg #[.int .i64 x0.P, .int .i64 x0.C, .slice Am RU.length cm], .int .i64 0]) (by simp [results, Try.results30, go_sem, blr, qr0, qr1, qr2]) rfl ?_
        rw [HER.out, HEC.out]
        refine MadeC.mat (S := Tm) rfl ?_ HT.out HCB.out ?_
        · exact spII.own_set (spII.own_set (spII.own_set (HOm.out) (p := ⟨(w.heap.size + 1), 0, none⟩) nT _) (p := ⟨(w.heap.size + 1), 1, none⟩) nT _) (p := ⟨(w.heap.size + 1), 2, none⟩) nT _
        · exact (((LZ).setCell (p := ⟨(w.heap.size + 1), 0, none⟩) (by simp; try omega) _).setCell (p := ⟨(w.heap.size + 1), 1, none⟩) (by simp; try omega) _).setCell (p := ⟨(w.heap.size + 1), 2, none⟩) (by simp; try omega) _
end Go.Proofs.Ytggkoihlmijacaa
