/- The model's rows with the identity matrix on their right. -/
import Derived.Test.YtggkoihlmijacaaL02X
import Derived.Test.YtggkoihlmijacaaL02U
import Derived.Deep.AppendLies
import Derived.Deep.RegionLaw
namespace Go.Proofs.Ytggkoihlmijacaa
open Go.RowKit
set_option linter.unusedVariables false
set_option linter.unusedSimpArgs false

theorem Num.wideR_take {rows : List (List Int)} {j : Nat} (h : j < rows.length) : (Num.wideR rows).take (j + 1) = (Num.wideR rows).take j ++ [rows.getD j [] ++ Num.unitV rows.length j] := by
  have hl : j < (Num.wideR rows).length := by rw [Num.wideR_length]; exact h
  rw [Num.take_snoc _ [] hl, Num.wideR_get h]
theorem Num.unitR_get {n i : Nat} (h : i < n) : (Num.unitR n).getD i [] = Num.unitV n i := by
  rw [Num.getD_lt _ _ (by rw [Num.unitR_length]; exact h)]; simp [Num.unitR]
theorem spI_own_of {w : World} {S : Nat → Prop} {g n c : Nat} {x : List Int} (ho : w.ownsRow 0 2 1 (.slice (some ⟨g, 0, none⟩) n c) n (x.map (Value.int .i64))) (hn : n = x.length) (hg : g < w.heap.size) (hS : ∀ q, S q → q < w.heap.size) : spI.own w (fun k => S k ∨ k = g) (.slice (some ⟨g, 0, none⟩) n c) x := by
  subst hn
  exact ⟨ho, fun k hk => .inr (by simpa [Value.ownBlock] using hk.symm), fun k hk => by
    rcases hk with hk | hk
    · exact hS k hk
    · omega⟩
theorem RdC.at_ {w : World} {g o : Nat} {news : List Value} (h : RdC w (some ⟨g, o, none⟩) news) : ∀ j u, news[j]? = some u → w.cell? ((⟨g, o, none⟩ : Addr).add j) = some u := by
  intro j u hu
  obtain ⟨hj, hu'⟩ := List.getElem?_eq_some_iff.1 hu
  obtain ⟨g', o', e, hc⟩ := h j hj
  simp only [Option.some.injEq, Addr.mk.injEq, and_true] at e
  obtain ⟨rfl, rfl⟩ := e
  have hadd : (⟨g, o, none⟩ : Addr).add j = ⟨g, o + j, none⟩ := by unfold Addr.add; split <;> simp_all
  rw [hadd, hc, ← hu', List.getD_eq_getElem?_getD, List.getElem?_eq_getElem hj]
  rfl
set_option maxRecDepth 100000 in
set_option maxHeartbeats 2000000 in
theorem sWide_any (p : Int) (rv : Value) (rows : List (List Int)) (C : Nat) (w : World) (hr : spII.rd w rv rows) (hgp : Num.gp p = true) (hrv : ∀ i, i < rows.length → Num.Vec p C (rows.getD i [])) (hC : C ≤ 100) (hrl : rows.length ≤ 100) :
    Calls Try.prog 109 #[.int .i64 p, rv] w (Made spII (Num.wideE p rows) w) := by
  obtain ⟨i0', hi', hz0', hz1', hz2'⟩ := info_parts infoI
  obtain ⟨i0, hi, hz0, hz1, hz2⟩ := info_parts infoII
  have hr0 := hr
  obtain ⟨A, cA, rfl, -, -⟩ := hr0
  have HW := Lib.hid (Num.wide_vec (by have := Num.gp_le hgp; omega) hrv)
  have HR := Lib.hid hr
  have HRV := Lib.hid hrv
  have HGP := Lib.hid hgp
  have HWL := Lib.hid (Num.wideR_length rows)
  have HU := Lib.hid (sUnit_any rows.length w (by omega))
  clear hr hrv hgp
  go_enter Try.func109, Try.ntmps109
  go_wp2_with (fail)
  refine HU.out.mono ?_; rintro e w1 ⟨uu, Su, rfl, owu, hSu, hbu⟩
  obtain ⟨Au, cu, rfl, -, -⟩ := spII.own_rd owu
  have HUR := Lib.hid (spII.own_rd owu)
  have HUL := Lib.hid (Num.unitR_length rows.length)
  clear owu hSu HU
  go_wp2_with (fail)
  go_loopw [6, 7] (fun s6 s7 wr => ∃ (j : Nat) (S : Nat → Prop), s7 = .int .i64 j ∧ j ≤ rows.length ∧ Hid (spII.own wr S s6 ((Num.wideR rows).take j)) ∧ Hid (∀ k, S k → w1.heap.size ≤ k) ∧ Below w1.heap.size w1 wr) (fun _ s7 _ => rows.length - (intOf s7).toNat)
  case atStart => exact ⟨0, _, rfl, by omega, Lib.hid (spL_empty _ _ _ _), Lib.hid (fun k hk => by omega), by go_grown⟩
  case round =>
    obtain ⟨j, S, rfl, hj, HO, hS, bel⟩ := hrel
    have hlj : ((Num.wideR rows).take j).length = j := by rw [List.length_take, HWL.out]; omega
    obtain ⟨A', c', e', -⟩ := spII.own_rd HO.out
    rw [hlj] at e'
    subst e'
    have HLJ := Lib.hid hlj
    clear hlj
    by_cases hlt : j < rows.length
    · have j0 : (0 : Int) ≤ (j : Int) := by omega
      have j1 : (j : Int) < (rows.length : Int) := by omega
      have j2 : (j : Int) < ((Num.unitR rows.length).length : Int) := by rw [HUL.out]; omega
      have ET := Lib.hid (Num.wideR_take hlt)
      obtain ⟨g, o, u, rfl, hg, hc0, hru0⟩ := spL_row HR.out hlt
      have hbw := bstep hbu hbu.size bel
      have hc : wr.cell? ⟨g, o + j, none⟩ = some u := by rw [hbw.cell hg]; exact hc0
      have hru := spI.rd_below hru0 hbw
      obtain ⟨gu, ou, uu, rfl, hgu, hcu0, hruu0⟩ := spL_row HUR.out (j := j) (by rw [HUL.out]; exact hlt)
      rw [Num.unitR_get hlt] at hruu0
      have hcu : wr.cell? ⟨gu, ou + j, none⟩ = some uu := by rw [bel.cell hgu]; exact hcu0
      have hruu := spI.rd_below hruu0 bel
      obtain ⟨Bv, cv, rfl, -, hrv⟩ := spI_form hruu
      obtain ⟨gv, ov, rfl, -, -⟩ := hrv 0 (by have := Num.unitV_length rows.length j; omega)
      have hvl : (Num.unitV rows.length j).length = rows.length := Num.unitV_length _ _
      have HRU := Lib.hid (hrv.cells)
      have HVL := Lib.hid hvl
      rw [hvl] at hcu
      have xl := (HRV.out j hlt).len
      have HXL := Lib.hid xl
      have HOW := Lib.hid (sOwn_any u (rows.getD j []) wr.drew (spI.rd_drew hru) (by omega))
      have HO9 := Lib.hid (spII.own_drew HO.out)
      have xb : (rows.getD j []).length ≤ 100 := by omega
      have rpos : 0 < rows.length := by omega
      have HN9 : Hid (((Num.unitV rows.length j).map (Value.int .i64)).length = rows.length * 1) := Lib.hid (by simp [Num.unitV_length])
      have hzwr := bel.size
      have HB := Lib.hid (fun k (hk : (Value.slice A' j c').ownBlock = some k) => hS.out k (by obtain ⟨_, _, _, _, _, _, h5, _⟩ := HO.out; exact h5 k hk))
      clear hru0 hc0 hcu0 hruu0 hruu hru hrv hvl xl
      generalize rows.getD j [] = x at *
      generalize hy : Num.unitV rows.length j = y at *
      have HY := Lib.hid hy
      clear hy
      go_wp2_with (fail)
      go_region_law (first | (go_simp; go_at_call 104; refine HOW.out.mono ?_; rintro e2 w2 ⟨u2, S2, rfl, ow2, hS2, hb2⟩; have o2r := ow2.1; have hob : ∀ k, u2.ownBlock = some k → S2 k := ow2.2.1; obtain ⟨U2, cU2, rfl, -⟩ := ownsRow_cap o2r; have SM2 : w2.cell? ⟨gu, ou + j, none⟩ = some (.slice (some ⟨gv, ov, none⟩) rows.length cv) := (by rw [hb2.cell (by show gu < wr.heap.size; omega)]; exact hcu); have HRU2 : Hid (RdC w2 (some ⟨gv, ov, none⟩) (y.map (Value.int .i64))) := Lib.hid (fun q hq => by obtain ⟨g0, o0, e0, hc9⟩ := HRU.out q hq; refine ⟨g0, o0, e0, ?_⟩; rw [hb2.cell (block_lt_of_cell hc9)]; exact hc9)) | (refine step_append_lies _ rfl _ _ 31 rfl 0 2 i0' (.int .i64 0) 1 8 Try.underlying31 hi' hz0' hz1' hz2' rfl (by decide) (.slice U2 x.length cU2) x.length (x.map (Value.int .i64)) rfl o2r ⟨gv, ov, none⟩ rows.length cv (y.map (Value.int .i64)) rfl HN9.out HRU2.out.at_ (oneCell_ints y) rpos (by unfold maxLen; omega) (by omega) (Nat.zero_le _) _ rfl ?_; intro g5 cap5 w5 own5 gr5 at5 lt5; have hb5 : Below wr.drew.heap.size wr.drew w5 := hb2.grown gr5 hb2.size (fun q hq => hS2 q (hob q hq)); rw [← List.map_append] at own5; have HRW := Lib.hid (spI_own_of own5 (S := S2) (by rw [List.length_append, HVL.out]) lt5 (fun q hq => by have ha := spI.own_lt ow2 hq; have hb := gr5.size; omega)); have o2 := spII.own_below HO9.out hb5; obtain ⟨vs7, hvs, hpush⟩ := spL_push o2 HRW.out (fun q h1 h2 => by have ha := spII.own_lt HO9.out h1; rcases h2 with h2 | h2; (have hb := hS2 q h2; omega); (rcases at5 with h3 | h3; (have hb := hS2 q (hob q (h2 ▸ h3)); omega); (have hb := hb2.size; omega))); rw [HLJ.out] at hvs hpush; have HVS7 := Lib.hid (hvs.alloc (.cells #[.slice (some ⟨g5, 0, none⟩) (x.length + rows.length) cap5] 31)); have HP7 := Lib.hid hpush; clear hvs hpush o2) | (refine step_append_lies _ rfl _ _ 22 rfl 0 31 i0 (.slice none 0 0) 1 24 Try.underlying22 hi hz0 hz1 hz2 rfl (by decide) (.slice A' j c') j vs7 rfl HVS7.out ⟨_, 0, none⟩ 1 1 [.slice (some ⟨g5, 0, none⟩) (x.length + rows.length) cap5] rfl rfl (by first | exact cell_one_new _ _ _ | (have hcn := cell_one_new w5 (.slice (some ⟨g5, 0, none⟩) (x.length + rows.length) cap5) 31; rw [World.size_setCell] at hcn; exact hcn)) (by simp [Value.oneCell']) (by decide) (by unfold maxLen; omega) (by omega) (Nat.zero_le _) _ rfl ?_; intro g7 cap7 w7 own7 gr7 at7 lt7))
      all_goals
        have OW7 := Lib.hid (HP7.out _ _ _ g7 ((Below.refl _ _).alloc (Nat.le_refl _) _) own7 gr7 rfl (by rcases at7 with h' | h'; exact .inl h'; exact .inr (by simp at h' ⊢; omega)) lt7)
        have hq9 : wr.heap.size = wr.drew.heap.size := rfl
        have hb5s := hb5.size
        have bel7 : Below w1.heap.size w1 w7 := (((bel.drew).trans (hb5.mono (by omega))).alloc (by first | omega | (simp; omega)) _).grown gr7 (by first | omega | (simp; omega)) HB.out
        have HS7 : Hid (∀ q, (S q ∨ (S2 q ∨ q = g5) ∨ q = g7) → w1.heap.size ≤ q) := Lib.hid (fun q hq => by
          rcases hq with hq | (hq | hq) | hq
          · exact hS.out q hq
          · have := hS2 q hq; omega
          · rcases at5 with h' | h'
            · have := hS2 q (hob q (by rw [hq]; exact h')); omega
            · have := hb2.size; omega
          · rcases at7 with h' | h'
            · rw [hq]; exact HB.out _ h'
            · simp at h'; omega)
        have HE7 : Hid (spII.own w7 (fun q => S q ∨ (S2 q ∨ q = g5) ∨ q = g7) (.slice (some ⟨g7, 0, none⟩) (j + 1) cap7) ((Num.wideR rows).take (j + 1))) := Lib.hid (by rw [ET.out]; exact OW7.out)
        clear own7 gr7 at7 lt7 HVS7 HP7 ow2 hS2 hb2 own5 gr5 at5 lt5 OW7 HRW hb5
        go_wp2_with (fail)
        exact ⟨⟨j + 1, _, by go_num, by omega, HE7, HS7, bel7⟩, by simp [intOf]; omega⟩
    · obtain rfl : j = rows.length := by omega
      have hge : ¬ ((rows.length : Int) < (rows.length : Int)) := by omega
      have HE : Hid ((Num.wideR rows).take rows.length = Num.wideR rows) := Lib.hid (List.take_of_length_le (by rw [HWL.out]; omega))
      rw [HE.out] at HO
      have HRD0 := sReduce_any p _ (Num.wideR rows) (C + rows.length) wr (spII.own_rd HO.out) HGP.out HW.out (by omega) (by rw [HWL.out]; omega)
      have HRD := Lib.hid HRD0
      have hbw := bstep hbu hbu.size bel
      clear HRD0
      go_wp2_with (fail)
      refine HRD.out.mono ?_; rintro e2 w2 ⟨u2, S2, rfl, ow2, hS2, hb2⟩
      have HO2 := Lib.hid ow2
      clear ow2 HRD
      go_wp2_with (fail)
      go_ret
      exact Made.of rfl HO2.out (fun k hk => by have := hS2 k hk; have := hbw.size; omega) (bstep hbw hbw.size hb2)
end Go.Proofs.Ytggkoihlmijacaa
