/- The program's TransposeMatrix. -/
import Derived.Test.YtggkoihlmijacaaL03L
import Derived.Test.YtggkoihlmijacaaKB
import Derived.Deep.RegionLaw
namespace Go.Proofs.Ytggkoihlmijacaa
open Go.RowKit
set_option linter.unusedVariables false
set_option linter.unusedSimpArgs false

def Num.trTo (rows : List (List Int)) (m j i : Nat) : List (List Int) := (List.range m).map fun k => if k < j then Num.colV rows k else if k = j then (Num.colV rows j).take i else []
theorem Num.trTo_length (rows : List (List Int)) (m j i : Nat) : (Num.trTo rows m j i).length = m := by simp [Num.trTo]
theorem Num.trTo_get {rows : List (List Int)} {m j i : Nat} (h : j < m) : (Num.trTo rows m j i).getD j [] = (Num.colV rows j).take i := by
  unfold Num.trTo
  rw [List.getD_eq_getElem?_getD, List.getElem?_map, List.getElem?_range h]
  simp
theorem Num.trTo_zero (rows : List (List Int)) (m : Nat) : Num.trTo rows m 0 0 = List.replicate m [] := by
  refine List.ext_getElem (by simp [Num.trTo]) fun k h1 h2 => ?_
  simp [Num.trTo]
theorem Num.trTo_step {rows : List (List Int)} {m j i : Nat} (hj : j < m) (hi : i < rows.length) : (Num.trTo rows m j i).set j ((Num.colV rows j).take i ++ [(rows.getD i []).getD j 0]) = Num.trTo rows m j (i + 1) := by
  refine List.ext_getElem (by simp [Num.trTo]) fun k h1 h2 => ?_
  rw [List.getElem_set]
  by_cases e : j = k
  · subst e
    rw [if_pos rfl, ← Num.colV_take hi]
    simp [Num.trTo]
  · rw [if_neg e]
    have e' : ¬ k = j := fun h => e h.symm
    simp only [Num.trTo, List.getElem_map, List.getElem_range, if_neg e']
theorem Num.trTo_next {rows : List (List Int)} {m j : Nat} : Num.trTo rows m j rows.length = Num.trTo rows m (j + 1) 0 := by
  refine List.ext_getElem (by simp [Num.trTo]) fun k h1 h2 => ?_
  simp only [Num.trTo, List.getElem_map, List.getElem_range]
  by_cases h : k < j
  · rw [if_pos h, if_pos (by omega)]
  · rw [if_neg h]
    by_cases e : k = j
    · subst e
      rw [if_pos rfl, if_pos (by omega)]
      exact List.take_of_length_le (by rw [Num.colV_length]; omega)
    · rw [if_neg e, if_neg (by omega)]
      by_cases e2 : k = j + 1
      · rw [if_pos e2]; simp
      · rw [if_neg e2]
theorem Num.trTo_all {rows : List (List Int)} {m : Nat} : Num.trTo rows m m 0 = Num.transR rows m := by
  refine List.ext_getElem (by simp [Num.trTo, Num.transR]) fun k h1 h2 => ?_
  have hk : k < m := by rw [Num.transR_length] at h2; exact h2
  simp only [Num.trTo, Num.transR, List.getElem_map, List.getElem_range, if_pos hk]
theorem made_nils {w1 : World} {B m : Nat} (own1 : w1.ownsRow B 31 1 (.slice (some ⟨B, 0, none⟩) m m) m (madeCells (Value.slice none 0 0).cells (m * 1)).toList) (hB : B < w1.heap.size) :
    spII.own w1 (fun k => k = B) (.slice (some ⟨B, 0, none⟩) m m) (List.replicate m []) := by
  have e : (madeCells (Value.slice none 0 0).cells (m * 1)).toList = List.replicate m (Value.slice none 0 0) := by
    show (madeCells #[Value.slice none 0 0] (m * 1)).toList = _
    rw [toList_madeCells_one]
    simp
  rw [e] at own1
  refine ⟨List.replicate m (.slice none 0 0), fun _ _ => False, by simpa using (show w1.ownsRow 0 31 1 (.slice (some ⟨B, 0, none⟩) m m) m (List.replicate m (Value.slice none 0 0)) from ⟨own1.1, own1.2.imp id fun ⟨g, cap, cur, h1, h2, h3⟩ => ⟨g, cap, cur, h1, Nat.zero_le _, h3⟩⟩), fun j hj => ?_, fun i j _ _ k h => h.elim, fun j _ k h => h.elim, fun k hk => by simpa [Value.ownBlock] using hk.symm, fun k hk => by rw [hk]; exact hB⟩
  have hj' : j < m := by simpa using hj
  rw [show (List.replicate m (Value.slice none 0 0)).getD j undef = .slice none 0 0 by simp [List.getD_eq_getElem?_getD, hj'], show (List.replicate m ([] : List Int)).getD j [] = [] by simp [List.getD_eq_getElem?_getD, hj']]
  exact ⟨⟨by simp, .inl ⟨rfl, rfl⟩⟩, fun k hk => by simp [Value.ownBlock] at hk, fun k hk => hk.elim⟩
set_option maxRecDepth 100000 in
set_option maxHeartbeats 2000000 in
theorem iTransposeMatrix_ok (v0 : Value) (x0 : Mat) (w : World) (h0 : spMat.rd w v0 x0) (s0 : spMat.sz x0 ≤ 1048576) : Calls Try.prog 71 #[v0] w (MadeC spMat (rTransposeMatrix x0) (cTransposeMatrix x0) w) := by
  obtain ⟨i0', hi', hz0', hz1', hz2'⟩ := info_parts infoI
  obtain ⟨i0, hi, hz0, hz1, hz2⟩ := info_parts infoII
  obtain ⟨A0, n0, c0, rfl, r0⟩ := spMat_form h0
  obtain ⟨rfl, -, -, -⟩ := rdII_of r0
  have b0 : Below w.heap.size w ((w.alloc (.cells [.int .i64 x0.P, .int .i64 x0.C, .slice A0 x0.R.length c0].toArray 27)).alloc (.cells [.int .i64 0, .int .i64 0, .slice none 0 0].toArray 27)) := by go_grown
  have Ba : Blk ((w.alloc (.cells [.int .i64 x0.P, .int .i64 x0.C, .slice A0 x0.R.length c0].toArray 27)).alloc (.cells [.int .i64 0, .int .i64 0, .slice none 0 0].toArray 27)) w.heap.size [.int .i64 x0.P, .int .i64 x0.C, .slice A0 x0.R.length c0] 27 := (Blk.new w [.int .i64 x0.P, .int .i64 x0.C, .slice A0 x0.R.length c0] 27).alloc _
  have Br : Blk ((w.alloc (.cells [.int .i64 x0.P, .int .i64 x0.C, .slice A0 x0.R.length c0].toArray 27)).alloc (.cells [.int .i64 0, .int .i64 0, .slice none 0 0].toArray 27)) (w.heap.size + 1) [.int .i64 0, .int .i64 0, .slice none 0 0] 27 := by have := Blk.new (w.alloc (.cells [.int .i64 x0.P, .int .i64 x0.C, .slice A0 x0.R.length c0].toArray 27)) [.int .i64 0, .int .i64 0, .slice none 0 0] 27; rwa [World.size_alloc] at this
  have K0 := Lib.hid (spMat.rd_below h0 b0)
  have R0 := Lib.hid (spII.rd_below r0 b0)
  clear h0 r0
  cases hk0 : x0.ok with
  | false =>
    have HEC : Hid (cTransposeMatrix x0 = 1) := Lib.hid (by unfold cTransposeMatrix; simp [hk0])
    have HER : Hid (rTransposeMatrix x0 = noMat) := Lib.hid (by unfold rTransposeMatrix; simp [hk0])
    have HC := Lib.hid (isMat_no _ x0 _ K0.out hk0)
    go_enter Try.func71, Try.ntmps71
    go_wp2_with (fail)
    refine HC.out.mono ?_; rintro e w1 ⟨rfl, hb1⟩
    have L1 := bstep b0 b0.size hb1
    have Br1 := Br.below hb1
    clear hb1 Ba Br
    obtain ⟨blr, q0, q1, q2⟩ := Br1.c3
    obtain ⟨f0, f1, f2⟩ := Br1.f3
    go_wp2_with (fail)
    refine bodyPost_ret (v := .tuple #[.agg #[.int .i64 0, .int .i64 0, .slice none 0 0], .int .i64 1]) (by simp [results, Try.results71, go_sem, blr, q0, q1, q2]) rfl ?_
    rw [HER.out, HEC.out]
    exact MadeC.none rfl (((L1.setCell (p := ⟨w.heap.size + 1, 0, none⟩) (by simp; try omega) _).setCell (p := ⟨w.heap.size + 1, 1, none⟩) (by simp; try omega) _).setCell (p := ⟨w.heap.size + 1, 2, none⟩) (by simp; try omega) _)
  | true =>
    have HC := Lib.hid (isMat_yes _ x0 _ K0.out hk0)
    have HK0 := Lib.hid hk0
    clear hk0
    go_enter Try.func71, Try.ntmps71
    go_wp2_with (fail)
    refine HC.out.mono ?_; rintro e w1 ⟨rfl, hb1⟩
    have L1 := bstep b0 b0.size hb1
    have Br1 := Br.below hb1
    have Ba1 := Ba.below hb1
    replace K0 := Lib.hid (spMat.rd_below K0.out hb1)
    replace R0 := Lib.hid (spII.rd_below R0.out hb1)
    clear hb1 Ba Br b0 HC
    obtain ⟨bl1, a0, a1, a2⟩ := Ba1.c3
    obtain ⟨hgp, hp1, hp2, hC0, hC1, hR8, hV0⟩ := Mat.ok_out HK0.out
    have HEC : Hid (cTransposeMatrix x0 = 0) := Lib.hid (by unfold cTransposeMatrix; simp [HK0.out])
    have HER : Hid (rTransposeMatrix x0 = ⟨x0.P, (x0.R.length : Int), Num.transR x0.R x0.C.toNat⟩) := Lib.hid (by unfold rTransposeMatrix; simp [HK0.out])
    have HCB : Hid (spMat.cnt ⟨x0.P, (x0.R.length : Int), Num.transR x0.R x0.C.toNat⟩ ≤ 1000000000) := Lib.hid (cnt_bd Num.transR_len (by rw [Num.transR_length]; omega) (by omega))
    have HRV : Hid (∀ i, i < x0.R.length → (x0.R.getD i []).length = x0.C.toNat) := Lib.hid fun i hi => (hV0 i hi).len
    have hm8 : x0.C.toNat ≤ 8 := by omega
    have hCm : x0.C = (x0.C.toNat : Int) := by omega
    have HCM := Lib.hid hCm
    clear hV0 K0 hCm
    have hCn : ¬ x0.C < 0 := by omega
    generalize x0.C.toNat = m at *
    go_wp2_with (refine wpList_make_full _ rfl (.tmp 13) (.tmp 13) 22 rfl w1.heap.size 31 i0 (.slice none 0 0) 1 Try.underlying22 hi hz0 hz1 .i64 .i64 x0.C x0.C m rfl rfl HCM.out HCM.out (by rw [hz2]; omega) (by unfold maxLen; omega) (Nat.le_refl _) ?_; intro wm own1 gr1; have OM := Lib.hid own1; have bm : Below w1.heap.size w1 wm := (Below.refl _ _).grown gr1 (Nat.le_refl _) (fun k hk => by simp at hk); clear gr1 own1)
    have HM : Hid (spII.own wm (fun k => k = w1.heap.size) (.slice (some ⟨w1.heap.size, 0, none⟩) m m) (Num.trTo x0.R m 0 0)) := Lib.hid (by
      rw [Num.trTo_zero]
      exact made_nils OM.out (World.ownsRow.lt OM.out _ rfl).2)
    clear OM a0 a1 a2 bl1
    go_loopw [17] (fun s wr => ∃ (j : Nat) (S : Nat → Prop), s = .int .i64 j ∧ j ≤ m ∧ Hid (spII.own wr S (.slice (some ⟨w1.heap.size, 0, none⟩) m m) (Num.trTo x0.R m j 0)) ∧ Hid (∀ k, S k → w1.heap.size ≤ k) ∧ Below w1.heap.size w1 wr) (fun s _ => m - (intOf s).toNat)
    case atStart => exact ⟨0, _, rfl, by omega, HM, Lib.hid (fun k hk => by omega), bm⟩
    case round =>
      obtain ⟨j, S, rfl, hj, HO, hS, bel⟩ := hrel
      generalize wr = W0 at *
      have Ba3 := Ba1.below bel
      obtain ⟨bl3, d0, d1, d2⟩ := Ba3.c3
      clear HM bm
      by_cases hlt : j < m
      · have j0 : (0 : Int) ≤ (j : Int) := by omega
        have j1 : (j : Int) < (m : Int) := by omega
        go_wp2_with (fail)
        go_loopw [23] (fun s w2 => ∃ (i : Nat) (S2 : Nat → Prop), s = .int .i64 i ∧ i ≤ x0.R.length ∧ Hid (spII.own w2 S2 (.slice (some ⟨w1.heap.size, 0, none⟩) m m) (Num.trTo x0.R m j i)) ∧ Hid (∀ k, S2 k → w1.heap.size ≤ k) ∧ Below w1.heap.size w1 w2) (fun s _ => x0.R.length - (intOf s).toNat)
        case atStart => exact ⟨0, S, rfl, by omega, HO, hS, bel⟩
        case round =>
          obtain ⟨i, S2, rfl, hii, HO2, hS2, bw⟩ := hrel
          clear d0 d1 d2 bl3 HO hS bel Ba3
          by_cases hlti : i < x0.R.length
          · obtain ⟨gz, oz, uz, rfl, hg, hc, hru⟩ := spL_row (spII.rd_below R0.out bw) hlti
            obtain ⟨C, cC, rfl, -, -⟩ := spI_form hru
            have hrl := HRV.out i hlti
            obtain ⟨gr, or, rfl, hgr, hcr⟩ := spI_at hru (j := j) (by omega)
            have i0'' : (0 : Int) ≤ (i : Int) := by omega
            have i1 : (i : Int) < (x0.R.length : Int) := by omega
            have jl : (j : Int) < ((x0.R.getD i []).length : Int) := by omega
            have ES := Num.trTo_step (m := m) hlt hlti
            have xl : ((Num.colV x0.R j).take i).length ≤ 8 := by rw [List.length_take]; omega
            obtain ⟨u, hcu, hru1, hSg, hgl, huS, HGR⟩ := spII_grow HO2.out (j := j) (by rw [Num.trTo_length]; exact hlt)
            rw [Num.trTo_get hlt] at hru1 HGR
            have hcu' : wr.cell? ⟨w1.heap.size, j, none⟩ = some u := hcu
            clear hru hrl
            generalize (Num.colV x0.R j).take i = X at *
            generalize (x0.R.getD i []).getD j 0 = y at *
            generalize (x0.R.getD i []).length = ln at *
            generalize Num.trTo x0.R m j i = D at *
            have HES := Lib.hid ES
            have HG := Lib.hid HGR
            have HR := Lib.hid hru1
            obtain ⟨Au, cu, rfl, -⟩ := ownsRow_cap hru1
            have HB := Lib.hid (fun k (hk : (Value.slice Au X.length cu).ownBlock = some k) => hS2.out k (huS k hk).1)
            have bws := bw.size
            clear ES HGR hru1 huS hcu
            go_wp2_with (fail)
            go_region_law (first | (refine step_append_lies _ rfl _ _ 31 rfl 0 2 i0' (.int .i64 0) 1 8 Try.underlying31 hi' hz0' hz1' hz2' rfl (by decide) (.slice Au X.length cu) X.length (X.map (Value.int .i64)) rfl (HR.out.alloc _) ⟨_, 0, none⟩ 1 1 [.int .i64 y] rfl rfl (cell_one_new _ _ _) (by simp [Value.oneCell']) (by decide) (by unfold maxLen; omega) (by omega) (Nat.zero_le _) _ rfl ?_; intro g5 cap5 w5 own5 gr5 at5 lt5; obtain ⟨⟨ov5, hov5⟩, hfz5, OW5⟩ := HG.out _ w5 (.slice (some ⟨g5, 0, none⟩) (X.length + 1) cap5) y (((Below.refl wr.heap.size wr).alloc (Nat.le_refl _) _).drew) own5 gr5 (by rcases at5 with h' | h'; exact .inl (by rw [h']; rfl); exact .inr (by rw [h']; rfl))))
            all_goals
              have HO5 : Hid (spII.own (w5.setCell ⟨w1.heap.size, j, none⟩ (.slice (some ⟨g5, 0, none⟩) (X.length + 1) cap5)) (fun k => S2 k ∨ (Value.slice (some ⟨g5, 0, none⟩) (X.length + 1) cap5).ownBlock = some k) (.slice (some ⟨w1.heap.size, 0, none⟩) m m) (Num.trTo x0.R m j (i + 1))) := Lib.hid (by rw [← HES.out]; exact OW5)
              have HS5 : Hid (∀ k, (S2 k ∨ (Value.slice (some ⟨g5, 0, none⟩) (X.length + 1) cap5).ownBlock = some k) → w1.heap.size ≤ k) := Lib.hid (fun k hk => by
                rcases hk with hk | hk
                · exact hS2.out k hk
                · have e5 : g5 = k := by simpa [Value.ownBlock] using hk
                  rcases at5 with h' | h'
                  · exact HB.out k (by rw [h', e5])
                  · have h2 := h'; simp at h2; omega)
              have bel5 : Below w1.heap.size w1 (w5.setCell ⟨w1.heap.size, j, none⟩ (.slice (some ⟨g5, 0, none⟩) (X.length + 1) cap5)) := below_set (((bw.alloc (by first | exact bws | omega | (simp; omega)) _).drew).grown gr5 (by first | omega | (simp; omega)) HB.out) (Nat.le_refl _) j _
              clear OW5 own5 gr5 at5 lt5 hov5 hfz5
              go_wp2_with (fail)
              exact ⟨⟨i + 1, _, by go_num, by omega, HO5, HS5, bel5⟩, by simp [intOf]; omega⟩
          · obtain rfl : i = x0.R.length := by omega
            have hge : ¬ ((x0.R.length : Int) < (x0.R.length : Int)) := by omega
            rw [Num.trTo_next] at HO2
            go_wp2_with (fail)
            exact ⟨⟨j + 1, S2, by go_num, by omega, HO2, hS2, bw⟩, by simp [intOf]; omega⟩
      · obtain rfl : m = j := by omega
        have hge : ¬ ((m : Int) < (m : Int)) := by omega
        rw [Num.trTo_all] at HO
        have LZ := bstep L1 L1.size bel
        have Br3 := Br1.below bel
        obtain ⟨blr, q0, q1, q2⟩ := Br3.c3
        obtain ⟨f0, f1, f2⟩ := Br3.f3
        have ltz := Br1.lt
        have HT : Hid (∀ k, S k → w.heap.size ≤ k) := Lib.hid fun k h => by have := hS.out k h; omega
        have nT : ¬ S (w.heap.size + 1) := fun h => by have := hS.out _ h; omega
        have HTL : Hid ((Num.transR x0.R m).length = m) := Lib.hid (Num.transR_length _ _)
        go_wp2_with (fail)
        refine bodyPost_ret (v := .tuple #[.agg #[.int .i64 x0.P, .int .i64 (x0.R.length : Int), .slice (some ⟨w1.heap.size, 0, none⟩) m m], .int .i64 0]) (by simp [results, Try.results71, go_sem, blr, q0, q1, q2]) rfl ?_
        rw [HER.out, HEC.out]
        refine MadeC.mat (S := S) rfl ?_ HT.out HCB.out ?_
        · exact spII.own_set (spII.own_set (spII.own_set HO.out (p := ⟨w.heap.size + 1, 0, none⟩) nT _) (p := ⟨w.heap.size + 1, 1, none⟩) nT _) (p := ⟨w.heap.size + 1, 2, none⟩) nT _
        · exact ((LZ.setCell (p := ⟨w.heap.size + 1, 0, none⟩) (by simp; try omega) _).setCell (p := ⟨w.heap.size + 1, 1, none⟩) (by simp; try omega) _).setCell (p := ⟨w.heap.size + 1, 2, none⟩) (by simp; try omega) _
end Go.Proofs.Ytggkoihlmijacaa
