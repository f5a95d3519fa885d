/- The model's reduced form. -/
import Derived.Test.YtggkoihlmijacaaL02L
import Derived.Test.YtggkoihlmijacaaL02J
import Derived.Test.YtggkoihlmijacaaKA
import Derived.Deep.AppendLies
import Derived.Deep.RegionLaw
namespace Go.Proofs.Ytggkoihlmijacaa
open Go.RowKit
set_option linter.unusedVariables false
set_option linter.unusedSimpArgs false

set_option maxRecDepth 100000 in
set_option maxHeartbeats 4000000 in
theorem sReduce_any (p : Int) (rv : Value) (rows : List (List Int)) (n : Nat) (w : World) (hr : spII.rd w rv rows) (hgp : Num.gp p = true) (hrv : ∀ i, i < rows.length → Num.Vec p n (rows.getD i [])) (hn : n ≤ 1000) (hrl : rows.length ≤ 1000) :
    Calls Try.prog 45 #[.int .i64 p, rv] w (Made spII (Num.reduceR p rows) w) := by
  obtain ⟨hp1, hp2⟩ := Num.gp_le hgp
  obtain ⟨i0, hi, hz0, hz1, hz2⟩ := info_parts infoII
  have hr0 := hr
  obtain ⟨A, cA, rfl, -, -⟩ := hr0
  have HR := Lib.hid hr
  have HRV := Lib.hid hrv
  have HGP := Lib.hid hgp
  clear hr hrv hgp
  go_enter Try.func45, Try.ntmps45
  go_wp2_with (fail)
  go_loopw [5, 6] (fun s5 s6 wr => ∃ (i : Nat) (S : Nat → Prop), s6 = .int .i64 i ∧ i ≤ rows.length ∧ Hid (spII.own wr S s5 (Num.reduceR p (rows.take i))) ∧ Hid (∀ k, S k → w.heap.size ≤ k) ∧ Below w.heap.size w wr) (fun _ s6 _ => rows.length - (intOf s6).toNat)
  case atStart => exact ⟨0, _, rfl, by omega, Lib.hid (spL_empty _ _ _ _), Lib.hid (fun k hk => by omega), by go_grown⟩
  case round =>
    obtain ⟨i, S, rfl, hi', HO, hS, bel⟩ := hrel
    have E := Num.ech_reduce HGP.out HRV.out i hi'
    have el : (Num.reduceR p (rows.take i)).length ≤ 1000 := by have := Num.reduce_len (p := p) (rows := rows.take i); rw [List.length_take] at this; omega
    by_cases hlt : i < rows.length
    · obtain ⟨g, o, u, rfl, hg, hc0, hru⟩ := spL_row HR.out hlt
      have hc : wr.cell? ⟨g, o + i, none⟩ = some u := by rw [bel.cell hg]; exact hc0
      have i0' : (0 : Int) ≤ (i : Int) := by omega
      have i1' : (i : Int) < (rows.length : Int) := by omega
      have ST := Lib.hid (Num.reduce_take (p := p) hlt)
      have V0 := HRV.out i hlt
      obtain ⟨Y, Y0⟩ := E.clear (by omega) V0
      have HCL := Lib.hid (sClear_any p _ u (Num.reduceR p (rows.take i)) (rows.getD i []) n wr (spII.own_rd HO.out) (spI.rd_below hru bel) hp1 hp2 E.vec V0 hn el)
      have HE := Lib.hid E
      unfold Num.reduceStep at ST
      clear hru hc0 V0 E
      generalize hy : Num.clearV p (Num.reduceR p (rows.take i)) (rows.getD i []) = y at *
      generalize he : Num.reduceR p (rows.take i) = e at *
      have yl1 : y.length ≤ n := Nat.le_of_eq Y.len
      have yl2 : n ≤ y.length := Nat.le_of_eq Y.len.symm
      have HY := Lib.hid Y
      have HY0 := Lib.hid Y0
      clear hy he Y Y0
      obtain ⟨Ae, ce, rfl, -, -⟩ := spII.own_rd HO.out
      go_wp2_with (fail)
      refine HCL.out.mono ?_; rintro e' w2 ⟨u2, S2, rfl, ow2, hS2, hb2⟩
      obtain ⟨U2, cU2, rfl, -, -⟩ := spI_form (spI.own_rd ow2)
      have HO2 := Lib.hid (spII.own_below HO.out hb2)
      have bel2 := bstep bel bel.size hb2
      have HL := Lib.hid (sLead_any _ y w2 (spI.own_rd ow2) (by omega))
      have HW2 := Lib.hid ow2
      have HS2 : Hid (∀ k, S2 k → w.heap.size ≤ k) := Lib.hid fun k hk => by have := hS2 k hk; have := bel.size; omega
      have HD2 : Hid (∀ k, S k → ¬ S2 k) := Lib.hid fun k h1 h2 => by have := spII.own_lt HO.out h1; have := hS2 k h2; omega
      have hle := Num.lead_le y
      clear hb2 hS2 ow2 HCL HO bel hc
      go_wp2_with (fail)
      refine HL.out.mono ?_; rintro e' w2' ⟨rfl, rfl⟩
      by_cases hz : Num.lead y = y.length
      · rw [if_pos hz] at ST
        have hzi : ((Num.lead y : Nat) : Int) = (y.length : Int) := by omega
        have HZI := Lib.hid hzi
        have hb1 : (y.length : Int) ≤ 1000 := by omega
        clear hzi
        rw [hz]
        go_wp2_with (fail)
        exact ⟨⟨i + 1, S, by go_num, by omega, Lib.hid (by rw [ST.out]; exact HO2.out), hS, bel2⟩, by simp [intOf]; omega⟩
      · rw [if_neg hz] at ST
        have hkn : Num.lead y < n := by omega
        obtain ⟨g2, cg2, e1, hSg2, hgl2, a0, -⟩ := spI_own_at HW2.out (j := Num.lead y) (by omega)
        simp only [Value.slice.injEq] at e1
        obtain ⟨rfl, -, rfl⟩ := e1
        have hne := Num.lead_ne (v := y) (by omega)
        have yk0 := HY.out.lo (Num.lead y)
        have yk1 := HY.out.hi (Num.lead y)
        obtain ⟨u1, u2, u3'⟩ := Num.unify_facts HGP.out HY.out hkn
        have em : y.getD (Num.lead y) 0 % p = y.getD (Num.lead y) 0 := Int.emod_eq_of_lt yk0 yk1
        obtain ⟨bz0, bz1, -⟩ := Num.bez_inv yk0 yk1 (Num.gp_gcd HGP.out (by omega) yk1)
        have HI := sInv_any (y.getD (Num.lead y) 0) p w2 HGP.out (by rw [em]; exact hne)
        rw [em] at HI
        have HSC := sScale_any p (Num.bez (y.getD (Num.lead y) 0) p) _ y n w2 (spI.own_rd HW2.out) hp1 hp2 bz0 (by omega) HY.out hn
        change Calls _ _ _ _ (Made spI (Num.unify p y) w2) at HSC
        have HI := Lib.hid HI
        have HSC := Lib.hid HSC
        have HZV := Lib.hid u1
        have HZ1 := Lib.hid u3'
        have HPL : Hid (∀ j, j < e.length → (Num.lead y < Num.lead (e.getD j []) ↔ Num.place e (Num.lead y) ≤ j)) := Lib.hid fun j hj => by
          have h1 := HE.out.lead_ne HY0.out hne hj
          constructor
          · intro h2
            rcases Nat.lt_or_ge j (Num.place e (Num.lead y)) with h3 | h3
            · have := Num.place_lt h3; omega
            · exact h3
          · intro h2
            have := HE.out.place_ge h2 hj
            omega
        have hplE := Num.place_le e (Num.lead y)
        have hnz : ((Num.lead y : Nat) : Int) ≠ (y.length : Int) := by omega
        have hnz' : (((Num.lead y : Nat) : Int) == (y.length : Int)) = false := by simpa using hnz
        have k0 : (0 : Int) ≤ (Num.lead y : Int) := by omega
        have k1 : (Num.lead y : Int) < (y.length : Int) := by omega
        have k2 : (Num.lead y : Int) ≤ 1000 := by omega
        have HKN : Hid (Num.lead y < n) := Lib.hid hkn
        have INS : Hid (Num.insRow p e (Num.unify p y) (Num.lead y) = Num.putAt (e.map (Num.cut p (Num.unify p y) (Num.lead y))) (Num.place e (Num.lead y)) (Num.unify p y)) := Lib.hid rfl
        rw [INS.out] at ST
        clear INS u1 u2 u3' em hz hle hnz hne
        generalize hzz : Num.unify p y = z at *
        generalize Num.bez (y.getD (Num.lead y) 0) p = bz at *
        generalize y.getD (Num.lead y) 0 = yk at *
        generalize Num.lead y = k at *
        generalize Num.place e k = pl at *
        clear hzz
        have zl1 : z.length ≤ n := Nat.le_of_eq HZV.out.len
        have zl2 : n ≤ z.length := Nat.le_of_eq HZV.out.len.symm
        go_wp2_with (fail)
        refine HI.out.mono ?_; rintro e' w2' ⟨rfl, rfl⟩
        go_wp2_with (fail)
        refine HSC.out.mono ?_; rintro e' w3 ⟨u3, S3, rfl, ow3, hS3, hb3⟩
        obtain ⟨U3, cU3, rfl, -, -⟩ := spI_form (spI.own_rd ow3)
        have HO3 := Lib.hid (spII.own_below HO2.out hb3)
        have HER := Lib.hid (spII.own_rd HO3.out)
        have HW3 := Lib.hid ow3
        have HZR := Lib.hid (spI.own_rd ow3)
        have bel3 := bstep bel2 bel2.size hb3
        have HS3 : Hid (∀ k, S3 k → w.heap.size ≤ k) := Lib.hid fun q hq => by have := hS3 q hq; have := bel2.size; omega
        have H3lt : Hid (∀ q, S3 q → q < w3.heap.size) := Lib.hid fun q hq => spI.own_lt ow3 hq
        have hml : (e.map (Num.cut p z k)).length = e.length := by simp
        have hplM : pl ≤ (e.map (Num.cut p z k)).length := by omega
        have HPM := Lib.hid hplM
        have HML := Lib.hid hml
        clear ow3 hS3 hb3 HO2 HW2 HS2 HD2 bel2 hSg2 hgl2 a0 HI HSC HL hml hplM
        go_wp2_with (fail)
        go_loopw [9, 10, 11] (fun s9 s10 s11 wr => ∃ (j : Nat) (SN : Nat → Prop), s11 = .int .i64 j ∧ j ≤ e.length ∧ s10 = .bool (decide (pl < j)) ∧ Hid (spII.own wr SN s9 (Num.nx (e.map (Num.cut p z k)) pl z j)) ∧ Hid (∀ q, SN q → w3.heap.size ≤ q ∨ (pl < j ∧ S3 q)) ∧ Hid (∀ q, s9.ownBlock = some q → w3.heap.size ≤ q) ∧ Below w3.heap.size w3 wr) (fun _ _ s11 _ => e.length - (intOf s11).toNat)
        case atStart => exact ⟨0, _, rfl, by omega, by simp, Lib.hid (by rw [Num.nx_zero]; exact spL_empty _ _ _ _), Lib.hid (fun q hq => .inl (by omega)), Lib.hid (fun q hq => by simp [Value.ownBlock] at hq; omega), by go_grown⟩
        case round =>
          obtain ⟨j, SN, rfl, hj, rfl, HN, HSN, HBN, belN⟩ := hrel
          obtain ⟨AN, cN, eN, -⟩ := spII.own_rd HN.out
          have hnl := Num.nx_length (v := z) HPM.out (by rw [HML.out]; exact hj)
          by_cases hltj : j < e.length
          · obtain ⟨ge, oe, u, rfl, hge', hce0, hru0⟩ := spL_row HER.out hltj
            obtain ⟨Bu, cu, rfl, -, -⟩ := spI_form hru0
            have hce : wr.cell? ⟨ge, oe + j, none⟩ = some (.slice Bu (e.getD j []).length cu) := by rw [belN.cell hge']; exact hce0
            have hru := spI.rd_below hru0 belN
            have j0 : (0 : Int) ≤ (j : Int) := by omega
            have j1 : (j : Int) < (e.length : Int) := by omega
            have V := HE.out.vec j hltj
            have HPJ := Lib.hid (HPL.out j hltj)
            have HG := Lib.hid (Num.map_getD (f := Num.cut p z k) hltj)
            have hll := Num.lead_le (e.getD j [])
            have HL9 := Lib.hid (sLead_any _ (e.getD j []) wr hru (by rw [V.len]; exact hn))
            have hl9 : (Num.lead (e.getD j []) : Int) ≤ 1000 := by have := V.len; omega
            have hru0' := hru0
            have hce0' := hce0
            clear hru0 hce0 hll
            generalize e.getD j [] = r at *
            rcases Nat.lt_trichotomy j pl with hjp | hjp | hjp
            · rw [if_pos (by omega)] at hnl
              rw [hnl] at eN
              subst eN
              have tb : decide (pl < j) = false := by simp; omega
              have hnk : ¬ ((k : Int) < (Num.lead r : Int)) := by have := HPJ.out; omega
              have NXL := Num.nx_ahead (v := z) HPM.out hjp
              rw [tb]
              clear tb
              generalize Num.lead r = lr at *
              go_wp2_with (fail)
              refine HL9.out.mono ?_; rintro e' w4 ⟨rfl, rfl⟩
              have HO9 := Lib.hid (spII.own_drew HN.out)
              have HLJ9 := Lib.hid hnl
              have HC9 := Lib.hid (sAdd_any p (p - r.getD k 0) _ _ r z n wr.drew (spI.rd_drew hru) (spI.rd_drew (spI.rd_below HZR.out belN)) hp1 hp2 (by have := V.hi k; omega) (by have := V.lo k; omega) V HZV.out hn)
              obtain ⟨gu, ou, hueq, hgu, hcu⟩ := spI_at hru (j := k) (by have := V.len; have := HKN.out; omega)
              have rk0 := V.lo k
              have rk1 := V.hi k
              have kr : (k : Int) < (r.length : Int) := by have := V.len; have := HKN.out; omega
              have HCUT := Lib.hid (Num.cut_sub (p := p) (v := z) (r := r) (k := k))
              have NXE : Hid (Num.nx (e.map (Num.cut p z k)) pl z (j + 1) = Num.nx (e.map (Num.cut p z k)) pl z j ++ [Num.cut p z k r]) := Lib.hid (by rw [NXL, HG.out])
              generalize hrk : r.getD k 0 = rk at *
              have HRK := Lib.hid hrk
              clear hrk
              have wr1 : IntKind.i64.wrap (p - rk) = p - rk := IntWalk.i64_in _ (by omega)
              subst hueq
              clear hru V
              go_wp2_with (fail)
              go_region_law (first | (go_simp; go_at_call 101; refine HC9.out.mono ?_; rintro e' w6 ⟨u6, S6, rfl, ow6, hS6, hb6⟩; obtain ⟨U6, cU6, rfl, -, -⟩ := spI_form (spI.own_rd ow6); have o2 := spII.own_below HO9.out hb6; obtain ⟨vs7, hvs, hpush⟩ := spL_push o2 ow6 (fun q h1 h2 => by have ha := spII.own_lt HO9.out h1; have hb := hS6 q h2; omega); rw [HLJ9.out] at hvs hpush; have HVS7 := Lib.hid (hvs.alloc (.cells #[.slice U6 (Num.addV p (p - rk) r z).length cU6] 31)); have HP7 := Lib.hid hpush; clear hvs hpush o2) | (refine step_append_lies _ rfl _ _ 22 rfl 0 31 i0 (.slice none 0 0) 1 24 Try.underlying22 hi hz0 hz1 hz2 rfl (by decide) (.slice AN j cN) j vs7 rfl HVS7.out ⟨_, 0, none⟩ 1 1 [.slice U6 (Num.addV p (p - rk) r z).length cU6] rfl rfl (by first | exact cell_one_new _ _ _ | (have hcn := cell_one_new w6 (.slice U6 (Num.addV p (p - rk) r z).length cU6) 31; rw [World.size_setCell] at hcn; exact hcn)) (by simp [Value.oneCell']) (by decide) (by unfold maxLen; omega) (by omega) (Nat.zero_le _) _ rfl ?_; intro g7 cap7 w7 own7 gr7 at7 lt7))
              all_goals
                have OW7 := Lib.hid (HP7.out _ _ _ g7 ((Below.refl _ _).alloc (Nat.le_refl _) _) own7 gr7 rfl (by rcases at7 with h' | h'; exact .inl h'; exact .inr (by simp at h' ⊢; omega)) lt7)
                have hq6 : wr.heap.size = wr.drew.heap.size := rfl
                have hb6s := hb6.size
                have hbs := belN.size
                have bel7 : Below w3.heap.size w3 w7 := (((belN.drew).trans (hb6.mono (by omega))).alloc (by first | omega | (simp; omega)) _).grown gr7 (by first | omega | (simp; omega)) HBN.out
                have HB7 : Hid (∀ q, (Value.slice (some ⟨g7, 0, none⟩) (j + 1) cap7).ownBlock = some q → w3.heap.size ≤ q) := Lib.hid (fun q hq => by
                  obtain rfl : g7 = q := by simpa [Value.ownBlock] using hq
                  rcases at7 with h' | h'
                  · exact HBN.out _ h'
                  · simp at h'; omega)
                have HS7 : Hid (∀ q, (SN q ∨ S6 q ∨ q = g7) → w3.heap.size ≤ q ∨ (pl < j + 1 ∧ S3 q)) := Lib.hid (fun q hq => by
                  rcases hq with hq | hq | hq
                  · rcases HSN.out q hq with h' | h'
                    · exact .inl h'
                    · exact .inr ⟨by omega, h'.2⟩
                  · have := hS6 q hq; exact .inl (by omega)
                  · exact .inl (HB7.out q (by rw [hq]; rfl)))
                have HNX : Hid (spII.own w7 (fun q => SN q ∨ S6 q ∨ q = g7) (.slice (some ⟨g7, 0, none⟩) (j + 1) cap7) (Num.nx (e.map (Num.cut p z k)) pl z (j + 1))) := Lib.hid (by rw [NXE.out, ← HCUT.out]; exact OW7.out)
                clear own7 gr7 at7 lt7 HVS7 HP7 ow6 hS6 hb6 OW7
                go_wp2_with (fail)
                exact ⟨⟨j + 1, _, by go_num, by omega, by simp; omega, HNX, HS7, HB7, bel7⟩, by simp [intOf]; omega⟩
            · subst hjp
              rw [if_pos (Nat.le_refl _)] at hnl
              rw [hnl] at eN
              subst eN
              have tb : decide (j < j) = false := by simp
              have hnk : (k : Int) < (Num.lead r : Int) := by have := HPJ.out; omega
              have NXL := Num.nx_at (E := e.map (Num.cut p z k)) (v := z) (by rw [HML.out]; exact hltj)
              rw [tb]
              clear tb
              have HNL5 := Lib.hid hnl
              have o2 := HN.out
              obtain ⟨vs5, hvs, hpush⟩ := spL_push o2 (spI.own_below HW3.out belN) (fun q h1 h2 => by have ha := H3lt.out q h2; rcases HSN.out q h1 with hb | hb; omega; omega)
              rw [HNL5.out] at hvs hpush
              have HVS5 := Lib.hid (hvs.alloc (.cells #[.slice U3 z.length cU3] 31))
              have HP5 := Lib.hid hpush
              clear hvs hpush o2
              generalize Num.lead r = lr at *
              go_wp2_with (fail)
              refine HL9.out.mono ?_; rintro e' w4 ⟨rfl, rfl⟩
              go_wp2_with (first | (at_builtin; refine wpList_append_lies _ rfl _ _ 22 rfl 0 31 i0 (.slice none 0 0) 1 24 Try.underlying22 hi hz0 hz1 hz2 rfl (by decide) (.slice AN j cN) j vs5 rfl HVS5.out ⟨_, 0, none⟩ 1 1 [.slice U3 z.length cU3] rfl rfl (by first | exact cell_one_new _ _ _ | (have hcn := cell_one_new wr (.slice U3 z.length cU3) 31; rw [World.size_setCell] at hcn; exact hcn)) (by simp [Value.oneCell']) (by decide) (by unfold maxLen; omega) (by omega) (Nat.zero_le _) _ rfl ?_; intro g5 cap5 w5 own5 gr5 at5 lt5))
              have OW5 := Lib.hid (HP5.out _ _ _ g5 ((Below.refl _ _).alloc (Nat.le_refl _) _) own5 gr5 rfl (by rcases at5 with h' | h'; exact .inl h'; exact .inr (by simp at h' ⊢; omega)) lt5)
              have hbn := belN.size
              have bel5 : Below w3.heap.size w3 w5 := (belN.alloc (by omega) _).grown gr5 (by simp; omega) HBN.out
              have HB5 : Hid (∀ q, (Value.slice (some ⟨g5, 0, none⟩) (j + 1) cap5).ownBlock = some q → w3.heap.size ≤ q) := Lib.hid (fun q hq => by
                obtain rfl : g5 = q := by simpa [Value.ownBlock] using hq
                rcases at5 with h' | h'
                · exact HBN.out _ h'
                · simp at h'; omega)
              have HS5 : Hid (∀ q, (SN q ∨ S3 q ∨ q = g5) → w3.heap.size ≤ q ∨ (j < j + 1 ∧ S3 q)) := Lib.hid (fun q hq => by
                rcases hq with hq | hq | hq
                · rcases HSN.out q hq with h' | h'
                  · exact .inl h'
                  · omega
                · exact .inr ⟨by omega, hq⟩
                · exact .inl (HB5.out q (by rw [hq]; rfl)))
              have hl5 : (Num.nx (e.map (Num.cut p z k)) j z j ++ [z]).length = j + 1 := by rw [List.length_append, HNL5.out]; rfl
              have hru5 : spI.rd w5 (.slice Bu r.length cu) r := spI.rd_keep hru0' bel5.size (fun q hq => bel5.block q hq)
              have hce5 : w5.cell? ⟨ge, oe + j, none⟩ = some (.slice Bu r.length cu) := by rw [bel5.cell hge']; exact hce0'
              clear own5 gr5 at5 lt5 HVS5 HP5 hce hru
              have HO9 := Lib.hid (spII.own_drew OW5.out)
              have HLJ9 := Lib.hid hl5
              have HC9 := Lib.hid (sAdd_any p (p - r.getD k 0) _ _ r z n w5.drew (spI.rd_drew hru5) (spI.rd_drew (spI.rd_below HZR.out bel5)) hp1 hp2 (by have := V.hi k; omega) (by have := V.lo k; omega) V HZV.out hn)
              obtain ⟨gu, ou, hueq, hgu, hcu⟩ := spI_at hru5 (j := k) (by have := V.len; have := HKN.out; omega)
              have rk0 := V.lo k
              have rk1 := V.hi k
              have kr : (k : Int) < (r.length : Int) := by have := V.len; have := HKN.out; omega
              have HCUT := Lib.hid (Num.cut_sub (p := p) (v := z) (r := r) (k := k))
              have NXE : Hid (Num.nx (e.map (Num.cut p z k)) j z (j + 1) = (Num.nx (e.map (Num.cut p z k)) j z j ++ [z]) ++ [Num.cut p z k r]) := Lib.hid (by rw [NXL, HG.out])
              generalize hrk : r.getD k 0 = rk at *
              have HRK := Lib.hid hrk
              clear hrk
              have wr1 : IntKind.i64.wrap (p - rk) = p - rk := IntWalk.i64_in _ (by omega)
              subst hueq
              clear hru5 V
              go_wp2_with (fail)
              go_region_law (first | (go_simp; go_at_call 101; refine HC9.out.mono ?_; rintro e' w6 ⟨u6, S6, rfl, ow6, hS6, hb6⟩; obtain ⟨U6, cU6, rfl, -, -⟩ := spI_form (spI.own_rd ow6); have o2 := spII.own_below HO9.out hb6; obtain ⟨vs7, hvs, hpush⟩ := spL_push o2 ow6 (fun q h1 h2 => by have ha := spII.own_lt HO9.out h1; have hb := hS6 q h2; omega); rw [HLJ9.out] at hvs hpush; have HVS7 := Lib.hid (hvs.alloc (.cells #[.slice U6 (Num.addV p (p - rk) r z).length cU6] 31)); have HP7 := Lib.hid hpush; clear hvs hpush o2) | (refine step_append_lies _ rfl _ _ 22 rfl 0 31 i0 (.slice none 0 0) 1 24 Try.underlying22 hi hz0 hz1 hz2 rfl (by decide) (.slice (some ⟨g5, 0, none⟩) (j + 1) cap5) (j + 1) vs7 rfl HVS7.out ⟨_, 0, none⟩ 1 1 [.slice U6 (Num.addV p (p - rk) r z).length cU6] rfl rfl (by first | exact cell_one_new _ _ _ | (have hcn := cell_one_new w6 (.slice U6 (Num.addV p (p - rk) r z).length cU6) 31; rw [World.size_setCell] at hcn; exact hcn)) (by simp [Value.oneCell']) (by decide) (by unfold maxLen; omega) (by omega) (Nat.zero_le _) _ rfl ?_; intro g7 cap7 w7 own7 gr7 at7 lt7))
              all_goals
                have OW7 := Lib.hid (HP7.out _ _ _ g7 ((Below.refl _ _).alloc (Nat.le_refl _) _) own7 gr7 rfl (by rcases at7 with h' | h'; exact .inl h'; exact .inr (by simp at h' ⊢; omega)) lt7)
                have hq6 : w5.heap.size = w5.drew.heap.size := rfl
                have hb6s := hb6.size
                have hbs := bel5.size
                have bel7 : Below w3.heap.size w3 w7 := (((bel5.drew).trans (hb6.mono (by omega))).alloc (by first | omega | (simp; omega)) _).grown gr7 (by first | omega | (simp; omega)) HB5.out
                have HB7 : Hid (∀ q, (Value.slice (some ⟨g7, 0, none⟩) ((j + 1) + 1) cap7).ownBlock = some q → w3.heap.size ≤ q) := Lib.hid (fun q hq => by
                  obtain rfl : g7 = q := by simpa [Value.ownBlock] using hq
                  rcases at7 with h' | h'
                  · exact HB5.out _ h'
                  · simp at h'; omega)
                have HS7 : Hid (∀ q, ((fun q => SN q ∨ S3 q ∨ q = g5) q ∨ S6 q ∨ q = g7) → w3.heap.size ≤ q ∨ (j < j + 1 ∧ S3 q)) := Lib.hid (fun q hq => by
                  rcases hq with hq | hq | hq
                  · rcases HS5.out q hq with h' | h'
                    · exact .inl h'
                    · exact .inr ⟨by omega, h'.2⟩
                  · have := hS6 q hq; exact .inl (by omega)
                  · exact .inl (HB7.out q (by rw [hq]; rfl)))
                have HNX : Hid (spII.own w7 (fun q => (fun q => SN q ∨ S3 q ∨ q = g5) q ∨ S6 q ∨ q = g7) (.slice (some ⟨g7, 0, none⟩) ((j + 1) + 1) cap7) (Num.nx (e.map (Num.cut p z k)) j z (j + 1))) := Lib.hid (by rw [NXE.out, ← HCUT.out]; exact OW7.out)
                clear own7 gr7 at7 lt7 HVS7 HP7 ow6 hS6 hb6 OW7
                go_wp2_with (fail)
                exact ⟨⟨j + 1, _, by go_num, by omega, by simp, HNX, HS7, HB7, bel7⟩, by simp [intOf]; omega⟩
            · rw [if_neg (by omega)] at hnl
              rw [hnl] at eN
              subst eN
              have tb : decide (pl < j) = true := by simp; omega
              have NXL := Num.nx_behind (v := z) HPM.out hjp (by rw [HML.out]; exact hltj)
              rw [tb]
              clear tb HL9
              have HO9 := Lib.hid (spII.own_drew HN.out)
              have HLJ9 := Lib.hid hnl
              have HC9 := Lib.hid (sAdd_any p (p - r.getD k 0) _ _ r z n wr.drew (spI.rd_drew hru) (spI.rd_drew (spI.rd_below HZR.out belN)) hp1 hp2 (by have := V.hi k; omega) (by have := V.lo k; omega) V HZV.out hn)
              obtain ⟨gu, ou, hueq, hgu, hcu⟩ := spI_at hru (j := k) (by have := V.len; have := HKN.out; omega)
              have rk0 := V.lo k
              have rk1 := V.hi k
              have kr : (k : Int) < (r.length : Int) := by have := V.len; have := HKN.out; omega
              have HCUT := Lib.hid (Num.cut_sub (p := p) (v := z) (r := r) (k := k))
              have NXE : Hid (Num.nx (e.map (Num.cut p z k)) pl z (j + 1) = Num.nx (e.map (Num.cut p z k)) pl z j ++ [Num.cut p z k r]) := Lib.hid (by rw [NXL, HG.out])
              generalize hrk : r.getD k 0 = rk at *
              have HRK := Lib.hid hrk
              clear hrk
              have wr1 : IntKind.i64.wrap (p - rk) = p - rk := IntWalk.i64_in _ (by omega)
              subst hueq
              clear hru V
              go_wp2_with (fail)
              go_region_law (first | (go_simp; go_at_call 101; refine HC9.out.mono ?_; rintro e' w6 ⟨u6, S6, rfl, ow6, hS6, hb6⟩; obtain ⟨U6, cU6, rfl, -, -⟩ := spI_form (spI.own_rd ow6); have o2 := spII.own_below HO9.out hb6; obtain ⟨vs7, hvs, hpush⟩ := spL_push o2 ow6 (fun q h1 h2 => by have ha := spII.own_lt HO9.out h1; have hb := hS6 q h2; omega); rw [HLJ9.out] at hvs hpush; have HVS7 := Lib.hid (hvs.alloc (.cells #[.slice U6 (Num.addV p (p - rk) r z).length cU6] 31)); have HP7 := Lib.hid hpush; clear hvs hpush o2) | (refine step_append_lies _ rfl _ _ 22 rfl 0 31 i0 (.slice none 0 0) 1 24 Try.underlying22 hi hz0 hz1 hz2 rfl (by decide) (.slice AN (j + 1) cN) (j + 1) vs7 rfl HVS7.out ⟨_, 0, none⟩ 1 1 [.slice U6 (Num.addV p (p - rk) r z).length cU6] rfl rfl (by first | exact cell_one_new _ _ _ | (have hcn := cell_one_new w6 (.slice U6 (Num.addV p (p - rk) r z).length cU6) 31; rw [World.size_setCell] at hcn; exact hcn)) (by simp [Value.oneCell']) (by decide) (by unfold maxLen; omega) (by omega) (Nat.zero_le _) _ rfl ?_; intro g7 cap7 w7 own7 gr7 at7 lt7))
              all_goals
                have OW7 := Lib.hid (HP7.out _ _ _ g7 ((Below.refl _ _).alloc (Nat.le_refl _) _) own7 gr7 rfl (by rcases at7 with h' | h'; exact .inl h'; exact .inr (by simp at h' ⊢; omega)) lt7)
                have hq6 : wr.heap.size = wr.drew.heap.size := rfl
                have hb6s := hb6.size
                have hbs := belN.size
                have bel7 : Below w3.heap.size w3 w7 := (((belN.drew).trans (hb6.mono (by omega))).alloc (by first | omega | (simp; omega)) _).grown gr7 (by first | omega | (simp; omega)) HBN.out
                have HB7 : Hid (∀ q, (Value.slice (some ⟨g7, 0, none⟩) ((j + 1) + 1) cap7).ownBlock = some q → w3.heap.size ≤ q) := Lib.hid (fun q hq => by
                  obtain rfl : g7 = q := by simpa [Value.ownBlock] using hq
                  rcases at7 with h' | h'
                  · exact HBN.out _ h'
                  · simp at h'; omega)
                have HS7 : Hid (∀ q, (SN q ∨ S6 q ∨ q = g7) → w3.heap.size ≤ q ∨ (pl < j + 1 ∧ S3 q)) := Lib.hid (fun q hq => by
                  rcases hq with hq | hq | hq
                  · rcases HSN.out q hq with h' | h'
                    · exact .inl h'
                    · exact .inr ⟨by omega, h'.2⟩
                  · have := hS6 q hq; exact .inl (by omega)
                  · exact .inl (HB7.out q (by rw [hq]; rfl)))
                have HNX : Hid (spII.own w7 (fun q => SN q ∨ S6 q ∨ q = g7) (.slice (some ⟨g7, 0, none⟩) ((j + 1) + 1) cap7) (Num.nx (e.map (Num.cut p z k)) pl z (j + 1))) := Lib.hid (by rw [NXE.out, ← HCUT.out]; exact OW7.out)
                clear own7 gr7 at7 lt7 HVS7 HP7 ow6 hS6 hb6 OW7
                go_wp2_with (fail)
                exact ⟨⟨j + 1, _, by go_num, by omega, by simp; omega, HNX, HS7, HB7, bel7⟩, by simp [intOf]; omega⟩
          · obtain rfl : j = e.length := by omega
            have hge : ¬ ((e.length : Int) < (e.length : Int)) := by omega
            have bels := bel3.size
            have bell := bstep bel3 bel3.size belN
            by_cases hpe : pl = e.length
            · subst hpe
              rw [if_pos (Nat.le_refl _)] at hnl
              rw [hnl] at eN
              subst eN
              have tb : decide (e.length < e.length) = false := by simp
              have NE : Hid (Num.nx (e.map (Num.cut p z k)) e.length z e.length ++ [z] = Num.reduceR p (rows.take (i + 1))) := Lib.hid (by rw [ST.out]; have h := Num.nx_end' (E := e.map (Num.cut p z k)) (v := z); rw [HML.out] at h; exact h)
              have HNL5 := Lib.hid hnl
              rw [tb]
              clear tb hnl
              have o2 := HN.out
              obtain ⟨vs6, hvs, hpush⟩ := spL_push o2 (spI.own_below HW3.out belN) (fun q h1 h2 => by have ha := H3lt.out q h2; rcases HSN.out q h1 with hb | hb; omega; omega)
              rw [HNL5.out] at hvs hpush
              have HVS6 := Lib.hid (hvs.alloc (.cells #[.slice U3 z.length cU3] 31))
              have HP6 := Lib.hid hpush
              clear hvs hpush o2
              go_wp2_with (first | (at_builtin; refine wpList_append_lies _ rfl _ _ 22 rfl 0 31 i0 (.slice none 0 0) 1 24 Try.underlying22 hi hz0 hz1 hz2 rfl (by decide) (.slice AN e.length cN) e.length vs6 rfl HVS6.out ⟨_, 0, none⟩ 1 1 [.slice U3 z.length cU3] rfl rfl (by first | exact cell_one_new _ _ _ | (have hcn := cell_one_new wr (.slice U3 z.length cU3) 31; rw [World.size_setCell] at hcn; exact hcn)) (by simp [Value.oneCell']) (by decide) (by unfold maxLen; omega) (by omega) (Nat.zero_le _) _ rfl ?_; intro g6 cap6 w6 own6 gr6 at6 lt6))
              have OW6 := Lib.hid (HP6.out _ _ _ g6 ((Below.refl _ _).alloc (Nat.le_refl _) _) own6 gr6 rfl (by rcases at6 with h' | h'; exact .inl h'; exact .inr (by simp at h' ⊢; omega)) lt6)
              have hbn := belN.size
              have HS6 : Hid (∀ q, (SN q ∨ S3 q ∨ q = g6) → w.heap.size ≤ q) := Lib.hid (fun q hq => by
                rcases hq with hq | hq | hq
                · rcases HSN.out q hq with h' | h'
                  · omega
                  · exact HS3.out q h'.2
                · exact HS3.out q hq
                · rcases at6 with h' | h'
                  · have := HBN.out _ h'; omega
                  · simp at h'; omega)
              have bel6 : Below w.heap.size w w6 := (bell.alloc (by omega) _).grown gr6 (by simp; omega) (fun q hq => by have := HBN.out q hq; omega)
              have OE6 : Hid (spII.own w6 (fun q => SN q ∨ S3 q ∨ q = g6) (.slice (some ⟨g6, 0, none⟩) (e.length + 1) cap6) (Num.reduceR p (rows.take (i + 1)))) := Lib.hid (by rw [← NE.out]; exact OW6.out)
              clear own6 gr6 at6 lt6 HVS6 HP6 OW6
              go_wp2_with (fail)
              exact ⟨⟨i + 1, _, by go_num, by omega, OE6, HS6, bel6⟩, by simp [intOf]; omega⟩
            · have hpe' : pl < e.length := by omega
              have tb : decide (pl < e.length) = true := by simp; omega
              have NE : Hid (Num.nx (e.map (Num.cut p z k)) pl z e.length = Num.reduceR p (rows.take (i + 1))) := Lib.hid (by rw [ST.out]; have h := Num.nx_end (E := e.map (Num.cut p z k)) (v := z) (pl := pl) (by rw [HML.out]; exact hpe'); rw [HML.out] at h; exact h)
              have HS6 : Hid (∀ q, SN q → w.heap.size ≤ q) := Lib.hid (fun q hq => by
                rcases HSN.out q hq with h' | h'
                · omega
                · exact HS3.out q h'.2)
              rw [NE.out] at HN
              rw [tb]
              clear tb hnl eN
              go_wp2_with (fail)
              exact ⟨⟨i + 1, _, by go_num, by omega, HN, HS6, bell⟩, by simp [intOf]; omega⟩
    · obtain rfl : i = rows.length := by omega
      have hge : ¬ ((rows.length : Int) < (rows.length : Int)) := by omega
      rw [List.take_length] at HO
      clear E el
      go_wp2_with (fail)
      go_ret
      exact Made.of rfl HO.out hS.out bel
end Go.Proofs.Ytggkoihlmijacaa
