/- Presentations: AbelianPresentation of both sides, whole. -/
import Derived.Test.YtncpngmplddbkaaL11O
namespace Go.Proofs.Ytncpngmplddbkaa
open Go.RowKit
set_option linter.unusedVariables false
set_option linter.unusedSimpArgs false

theorem noPres_set {w W : World} (L : Below w.heap.size w W) {b : Nat} (hb : w.heap.size ≤ b) (c : Int) (u0 u1 u2 : Value) : MadeC spPres noPres c w (.returned (.tuple #[.agg #[.slice none 0 0, .slice none 0 0, .slice none 0 0], .int .i64 c])) (((W.setCell ⟨b, 0, none⟩ u0).setCell ⟨b, 1, none⟩ u1).setCell ⟨b, 2, none⟩ u2) :=
  MadeC.noPres (((L.setCell (p := ⟨b, 0, none⟩) hb _).setCell (p := ⟨b, 1, none⟩) hb _).setCell (p := ⟨b, 2, none⟩) hb _)
set_option maxRecDepth 100000 in
set_option maxHeartbeats 1000000 in
theorem iAbelianPresentation_ok (v0 : Value) (O : List Int) (w : World) (h0 : spI.rd w v0 O) (s0 : spI.sz O ≤ 1048576) : Calls Try.prog 33 #[v0] w (MadeC spPres (rAbelianPresentation O) (cAbelianPresentation O) w) := by
  obtain ⟨A, c, rfl, hm, hO⟩ := h0
  by_cases h0 : Num.ordC O = 0
  · have e : rAbelianPresentation O = trivP O ∧ cAbelianPresentation O = 0 := ⟨if_pos h0, h0⟩
    rw [e.1, e.2]
    exact iAbelian_main A c O w hO (Num.ordC_zero h0).1 h0
  · have HR : Hid (rAbelianPresentation O = noPres ∧ cAbelianPresentation O = Num.ordC O) := Lib.hid ⟨if_neg h0, rfl⟩
    have b0 : Below w.heap.size w (w.alloc (.cells #[.slice none 0 0, .slice none 0 0, .slice none 0 0] 29)) := by go_grown
    have BR := (Blk.new w [.slice none 0 0, .slice none 0 0, .slice none 0 0] 29)
    have HOC := Lib.hid (ordersCode_any A c O (w.alloc (.cells #[.slice none 0 0, .slice none 0 0, .slice none 0 0] 29)) (hO.below' b0) hm)
    have T1 : (Num.ordC O != 0) = true := by simpa using h0
    clear hO h0
    generalize Num.ordC O = q at *
    obtain ⟨br, r0, r1, r2⟩ := BR.c3
    obtain ⟨f0, f1, f2⟩ := BR.f3
    generalize hW0 : w.alloc (.cells #[.slice none 0 0, .slice none 0 0, .slice none 0 0] 29) = W0 at *
    go_enter Try.func33, Try.ntmps33
    go_wp2_with (fail)
    clear hW0
    refine HOC.out.mono ?_; rintro e w' ⟨rfl, rfl⟩
    go_wp2_with (fail)
    refine bodyPost_ret (v := .tuple #[.agg #[.slice none 0 0, .slice none 0 0, .slice none 0 0], .int .i64 q]) (by simp [results, Try.results33, go_sem, br, r0, r1, r2]) rfl ?_
    rw [HR.out.1, HR.out.2]
    exact noPres_set b0 (Nat.le_refl _) _ _ _ _
set_option maxRecDepth 100000 in
set_option maxHeartbeats 2000000 in
theorem sAbelianPresentation_ok (v0 : Value) (O : List Int) (w : World) (h0 : spI.rd w v0 O) (s0 : spI.sz O ≤ 1048576) : Calls Try.prog 32 #[v0] w (MadeC spPres (rAbelianPresentation O) (cAbelianPresentation O) w) := by
  obtain ⟨A, c, rfl, hm, hO⟩ := h0
  have hm' := hm
  unfold maxLen at hm'
  have b0 : Below w.heap.size w (w.alloc (.cells #[.slice none 0 0, .slice none 0 0, .slice none 0 0] 29)) := by go_grown
  have BR := (Blk.new w [.slice none 0 0, .slice none 0 0, .slice none 0 0] 29)
  have HO := Lib.hid (hO.below' b0)
  have HBR := Lib.hid BR
  obtain ⟨br, r0, r1, r2⟩ := BR.c3
  obtain ⟨f0, f1, f2⟩ := BR.f3
  clear hO BR
  generalize hW0 : w.alloc (.cells #[.slice none 0 0, .slice none 0 0, .slice none 0 0] 29) = W0 at *
  by_cases h6 : 6 < O.length
  · have HR : Hid (rAbelianPresentation O = noPres ∧ cAbelianPresentation O = 3) := Lib.hid ⟨if_neg (by rw [Num.ordC_len h6]; decide), Num.ordC_len h6⟩
    have q6 : 6 < (O.length : Int) := by omega
    go_enter Try.func32, Try.ntmps32
    go_wp2_with (fail)
    refine bodyPost_ret (v := .tuple #[.agg #[.slice none 0 0, .slice none 0 0, .slice none 0 0], .int .i64 3]) (by simp [results, Try.results32, go_sem, br, r0, r1, r2]) rfl ?_
    rw [HR.out.1, HR.out.2]
    exact noPres_set b0 (Nat.le_refl _) _ _ _ _
  · have q6 : ¬ 6 < (O.length : Int) := by omega
    cases hg : Num.gpsB O with
    | false =>
      have HR : Hid (rAbelianPresentation O = noPres ∧ cAbelianPresentation O = 2) := Lib.hid ⟨if_neg (by rw [Num.ordC_bad h6 hg]; decide), Num.ordC_bad h6 hg⟩
      have HX : Hid ((∀ j, j < O.length → Num.gp (O.getD j 0) = true) → False) := Lib.hid fun hh => by rw [Num.gpsB_ok hh] at hg; cases hg
      clear hg
      go_enter Try.func32, Try.ntmps32
      go_wp2_with (fail)
      clear hW0
      go_loop [4] (fun s => ∃ i : Nat, i ≤ O.length ∧ s = .int .i64 i ∧ Hid (∀ j, j < i → Num.gp (O.getD j 0) = true)) (fun s => O.length - (intOf s).toNat)
      case atStart => exact ⟨0, by omega, rfl, Lib.hid fun j hj => by omega⟩
      case round =>
        obtain ⟨i, hi, rfl, hq⟩ := hrel
        by_cases hlt : i < O.length
        · obtain ⟨g, o, rfl, hg, hc⟩ := HO.out i hlt
          have i0 : (0 : Int) ≤ (i : Int) := by omega
          have i1 : (i : Int) < (O.length : Int) := by omega
          have HS : Hid (Num.gp (O.getD i 0) = true → ∀ j, j < i + 1 → Num.gp (O.getD j 0) = true) := Lib.hid fun h j hj' => by
            rcases Nat.lt_succ_iff_lt_or_eq.mp hj' with h1 | rfl
            · exact hq.out j h1
            · exact h
          clear hq
          generalize O.getD i 0 = y at *
          cases hy : Num.gp y with
          | true =>
            have HP := Lib.hid (sPrime_yes y W0 hy)
            have HQ := Lib.hid (HS.out hy)
            clear hy
            go_wp2_with (fail)
            refine HP.out.mono ?_; rintro e w' ⟨rfl, rfl⟩
            go_wp2_with (fail)
            exact ⟨⟨i + 1, by omega, by go_num, HQ⟩, by simp [intOf]; omega⟩
          | false =>
            have HP := Lib.hid (sPrime_no y W0 hy)
            clear hy
            go_wp2_with (fail)
            refine HP.out.mono ?_; rintro e w' ⟨rfl, rfl⟩
            go_wp2_with (fail)
            refine bodyPost_ret (v := .tuple #[.agg #[.slice none 0 0, .slice none 0 0, .slice none 0 0], .int .i64 2]) (by simp [results, Try.results32, go_sem, br, r0, r1, r2]) rfl ?_
            rw [HR.out.1, HR.out.2]
            exact noPres_set b0 (Nat.le_refl _) _ _ _ _
        · obtain rfl : i = O.length := by omega
          exact (HX.out hq.out).elim
    | true =>
      have hgp := Num.gpsB_out hg
      have HG := Lib.hid hgp
      have ho : ∀ j, j < O.length → 1 ≤ O.getD j 0 ∧ O.getD j 0 ≤ 7 := fun j hj => by have := Num.gpsB_at hg hj; omega
      have HQ := Lib.hid (sProd7_any A c O W0 HO.out hm ho)
      have HTR := Lib.hid (sTrivial_any A c O W0 HO.out (by omega))
      have HCNT := Lib.hid (trivP_cnt (O := O) (by omega))
      have HBG : Hid (729 < Num.prod7 1 O → rAbelianPresentation O = noPres ∧ cAbelianPresentation O = 3) := Lib.hid fun h => by
        have h7 : 729 < Num.prodZ O := by
          by_cases h8 : 729 < Num.prodZ O
          · exact h8
          · have := (Num.prod7_of hg).1 (by omega); omega
        exact ⟨if_neg (by rw [Num.ordC_big h6 hg h7]; decide), Num.ordC_big h6 hg h7⟩
      have HSM : Hid (¬ 729 < Num.prod7 1 O → rAbelianPresentation O = trivP O ∧ cAbelianPresentation O = 0) := Lib.hid fun h => by
        have h7 : ¬ 729 < Num.prodZ O := fun h8 => h ((Num.prod7_of hg).2 h8)
        have h9 := Num.ordC_ok h6 hg h7
        exact ⟨if_pos h9, h9⟩
      clear hg hgp ho
      generalize Num.prod7 1 O = q at *
      go_enter Try.func32, Try.ntmps32
      go_wp2_with (fail)
      clear hW0
      go_loop [4] (fun s => ∃ i : Nat, i ≤ O.length ∧ s = .int .i64 i) (fun s => O.length - (intOf s).toNat)
      case atStart => exact ⟨0, by omega, rfl⟩
      case round =>
        obtain ⟨i, hi, rfl⟩ := hrel
        by_cases hlt : i < O.length
        · obtain ⟨g, o, rfl, hg, hc⟩ := HO.out i hlt
          have i0 : (0 : Int) ≤ (i : Int) := by omega
          have i1 : (i : Int) < (O.length : Int) := by omega
          have HP := Lib.hid (sPrime_yes (O.getD i 0) W0 (HG.out i hlt))
          generalize O.getD i 0 = y at *
          go_wp2_with (fail)
          refine HP.out.mono ?_; rintro e w' ⟨rfl, rfl⟩
          go_wp2_with (fail)
          exact ⟨⟨i + 1, by omega, by go_num⟩, by simp [intOf]; omega⟩
        · have hge : ¬ ((i : Int) < (O.length : Int)) := by omega
          by_cases hq : 729 < q
          · have HR := Lib.hid (HBG.out hq)
            go_wp2_with (fail)
            refine HQ.out.mono ?_; rintro e w' ⟨rfl, rfl⟩
            go_wp2_with (fail)
            refine bodyPost_ret (v := .tuple #[.agg #[.slice none 0 0, .slice none 0 0, .slice none 0 0], .int .i64 3]) (by simp [results, Try.results32, go_sem, br, r0, r1, r2]) rfl ?_
            rw [HR.out.1, HR.out.2]
            exact noPres_set b0 (Nat.le_refl _) _ _ _ _
          · have HR := Lib.hid (HSM.out (by omega))
            go_wp2_with (fail)
            refine HQ.out.mono ?_; rintro e w' ⟨rfl, rfl⟩
            go_wp2_with (fail)
            refine HTR.out.mono ?_; rintro e w2 ⟨u, S, rfl, own, hS, hb2⟩
            obtain ⟨A0, n0, c0, A1, n1, c1, A2, n2, c2, rfl, -, -, -⟩ := spPres_form (spPres.own_rd own)
            obtain ⟨br2, s0', s1', s2'⟩ := (HBR.out.below hb2).c3
            obtain ⟨g0, g1, g2⟩ := (HBR.out.below hb2).f3
            have L2 := bstep b0 b0.size hb2
            have HOW := Lib.hid own
            have nb : ¬ S w.heap.size := fun h => by have := hS _ h; omega
            have HS := Lib.hid hS
            clear own hb2 hS r0 r1 r2 f0 f1 f2
            go_wp2_with (fail)
            refine bodyPost_ret (v := .tuple #[.agg #[.slice A0 n0 c0, .slice A1 n1 c1, .slice A2 n2 c2], .int .i64 0]) (by simp [results, Try.results32, go_sem, br2, s0', s1', s2']) rfl ?_
            rw [HR.out.1, HR.out.2]
            refine ⟨_, S, rfl, ?_, fun k hk => by have := HS.out k hk; have := b0.size; omega, HCNT.out, ?_⟩
            · exact spPres.own_set (spPres.own_set (spPres.own_set HOW.out (p := ⟨w.heap.size, 0, none⟩) nb _) (p := ⟨w.heap.size, 1, none⟩) nb _) (p := ⟨w.heap.size, 2, none⟩) nb _
            · exact ((L2.setCell (p := ⟨w.heap.size, 0, none⟩) (by simp) _).setCell (p := ⟨w.heap.size, 1, none⟩) (by simp) _).setCell (p := ⟨w.heap.size, 2, none⟩) (by simp) _
end Go.Proofs.Ytncpngmplddbkaa
