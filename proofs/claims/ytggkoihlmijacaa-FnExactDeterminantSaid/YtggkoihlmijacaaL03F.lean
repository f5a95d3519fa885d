/- The rows of a matrix with the identity matrix on their right, reduced. -/
import Derived.Test.YtggkoihlmijacaaL03E
import Derived.Test.YtggkoihlmijacaaL02Z
import Derived.Test.YtggkoihlmijacaaL02Q
import Derived.Test.YtggkoihlmijacaaL02D
namespace Go.Proofs.Ytggkoihlmijacaa
open Go.RowKit
set_option linter.unusedVariables false
set_option linter.unusedSimpArgs false

theorem Num.wideR_upto (rows : List (List Int)) : Num.uptoL (fun k => rows.getD k [] ++ Num.unitV rows.length k) rows 0 rows.length = Num.wideR rows :=
  Num.ext_getD [] (by rw [Num.uptoL_length, Num.wideR_length]) fun i hi => by
    rw [Num.uptoL_length] at hi
    rw [Num.uptoL_get _ _ _ _ hi, if_pos (by omega), Num.wideR_get hi]
set_option maxRecDepth 100000 in
set_option maxHeartbeats 2000000 in
theorem origins_any (v : Value) (x : Mat) (w : World) (h : spMat.rd w v x) (hok : x.ok = true) : Calls Try.prog 84 #[v] w (Made (spRR x.P) (Num.wideE x.P x.R) w) := by
  obtain ⟨hgp, hp1, hp2, hC0, hC1, hR8, hV⟩ := Mat.ok_out hok
  obtain ⟨A0, n0, c0, rfl, r⟩ := spMat_form h
  obtain ⟨rfl, -, -, -⟩ := rdII_of r
  have b0 : Below w.heap.size w (w.alloc (.cells [.int .i64 x.P, .int .i64 x.C, .slice A0 x.R.length c0].toArray 27)) := by go_grown
  have B0 := Blk.new w [.int .i64 x.P, .int .i64 x.C, .slice A0 x.R.length c0] 27
  have HRO := Lib.hid (rowsOf_any _ x _ (spMat.rd_below h b0) hok)
  have HV := Lib.hid hV
  have HGP := Lib.hid hgp
  have HW := Lib.hid (Num.wide_vec (by omega) hV)
  have HWL := Lib.hid (Num.wideR_length x.R)
  obtain ⟨d0, d1, d2, d3⟩ := B0.c3
  clear h r hV hok hgp
  go_enter Try.func84, Try.ntmps84
  go_wp2_with (fail)
  refine HRO.out.mono ?_; rintro e w1 ⟨u1, S1, rfl, ow1, hS1, hb1⟩
  obtain ⟨A1, c1, rfl, -, -⟩ := (spRR x.P).own_rd ow1
  have HO1 := Lib.hid ow1
  have HS1 : Hid (∀ k, S1 k → w.heap.size < k) := Lib.hid fun k hk => by have := hS1 k hk; simp at this; omega
  have B1 := B0.below hb1
  have L1 := bstep b0 b0.size hb1
  have HUA := Lib.hid (Num.uptoL_start (fun k => x.R.getD k [] ++ Num.unitV x.R.length k) x.R 0)
  have HUL := Lib.hid (Num.wideR_upto x.R)
  clear ow1 hS1 hb1 b0 B0 HRO d0 d1 d2 d3
  go_wp2_with (fail)
  go_loopw [10] (fun s wr => ∃ (j : Nat) (S : Nat → Prop), s = .int .i64 j ∧ j ≤ x.R.length ∧ Hid ((spRR x.P).own wr S (.slice A1 x.R.length c1) (Num.uptoL (fun k => x.R.getD k [] ++ Num.unitV x.R.length k) x.R 0 j)) ∧ Hid (∀ k, S k → w.heap.size < k) ∧ Blk wr w.heap.size [.int .i64 x.P, .int .i64 x.C, .slice A0 x.R.length c0] 27 ∧ Below w.heap.size w wr) (fun s _ => x.R.length - (intOf s).toNat)
  case atStart => exact ⟨0, S1, rfl, by omega, Lib.hid (by rw [HUA.out]; exact HO1.out), HS1, B1, L1⟩
  case round =>
    obtain ⟨j, S, rfl, hj, own, hS, BX, bel⟩ := hrel
    clear HO1 HS1 B1 L1
    by_cases hlt : j < x.R.length
    · have hul := Num.uptoL_length (fun k => x.R.getD k [] ++ Num.unitV x.R.length k) x.R 0 j
      have hgt := Num.uptoL_get (fun k => x.R.getD k [] ++ Num.unitV x.R.length k) x.R 0 j hlt
      rw [if_neg (by omega)] at hgt
      obtain ⟨g, cg, u, T, e1, hSg, hgl, hc, hfz0, hu, hTS, -⟩ := spL_own_at own.out (j := j) (by omega)
      simp only [Value.slice.injEq] at e1
      obtain ⟨rfl, -, rfl⟩ := e1
      rw [hgt] at hu
      obtain ⟨Bu, cu, rfl, -⟩ := spR_form ((spR x.P).own_rd hu)
      have j0 : (0 : Int) ≤ (j : Int) := by omega
      have j1 : (j : Int) < (x.R.length : Int) := by omega
      have HST : Hid ((Num.uptoL (fun k => x.R.getD k [] ++ Num.unitV x.R.length k) x.R 0 j).set j (x.R.getD j [] ++ Num.unitV x.R.length j) = _) := Lib.hid (Num.uptoL_step (fun k => x.R.getD k [] ++ Num.unitV x.R.length k) x.R (Nat.zero_le j) hlt)
      have HULI : Hid (j < (Num.uptoL (fun k => x.R.getD k [] ++ Num.unitV x.R.length k) x.R 0 j).length) := Lib.hid (by omega)
      have HU := Lib.hid (unitRow_any x.P x.R.length j wr (by omega) hlt (by omega) (by omega))
      have hgR := hS.out g hSg
      have vl := (HV.out j hlt).len
      have ul := Num.unitV_length x.R.length j
      have HRU := Lib.hid ((spR x.P).own_rd hu)
      have HLL : Hid ((x.R.getD j []).length + (Num.unitV x.R.length j).length ≤ 1000) := Lib.hid (by omega)
      obtain ⟨d0, d1, d2, d3⟩ := BX.c3
      clear hul hgt hu vl ul
      generalize x.R.getD j [] = row at *
      generalize Num.unitV x.R.length j = uv at *
      go_wp2_with (fail)
      refine HU.out.mono ?_; rintro e w2 ⟨u2, S2, rfl, ow2, hS2, hb2⟩
      obtain ⟨U2, cU2, rfl, -⟩ := spR_form ((spR x.P).own_rd ow2)
      have hal : Below w2.heap.size w2 (w2.alloc (.cells #[.slice Bu row.length cu, .slice U2 uv.length cU2] 56)) := (Below.refl _ _).alloc (Nat.le_refl _) _
      have BK := Blk.new w2 [.slice Bu row.length cu, .slice U2 uv.length cU2] 56
      obtain ⟨k0, k1, k2⟩ := BK.c2
      have HCC := Lib.hid (concat_any x.P (.slice Bu row.length cu) (.slice U2 uv.length cU2) row uv w2.heap.size (w2.alloc (.cells #[.slice Bu row.length cu, .slice U2 uv.length cU2] 56)) ((spR x.P).rd_below ((spR x.P).rd_below HRU.out hb2) hal) ((spR x.P).rd_below ((spR x.P).own_rd ow2) hal) HLL.out k1 k2)
      have bw := bstep hb2 hb2.size hal
      clear ow2 hS2 hal BK k0 k1 k2 HU d0 d1 d2 d3
      go_wp2_with (fail)
      refine HCC.out.mono ?_; rintro e w3 ⟨u3, S3, rfl, ow3, hS3, hb3⟩
      obtain ⟨A3, c3, rfl, -⟩ := spR_form ((spR x.P).own_rd ow3)
      have bw3 := bstep bw bw.size hb3
      have HS3 : ∀ k, S3 k → wr.heap.size ≤ k := fun k hk => by have := hS3 k hk; have := bw.size; omega
      obtain ⟨⟨ov, hov⟩, hfz, st1, st2⟩ := spL_put own.out HULI.out bw3 ow3 HS3
      rw [HST.out] at st1
      generalize (row ++ uv).length = ln at *
      have O4 := Lib.hid st1
      have BX4 := (BX.below bw3).other (p := ⟨g, j, none⟩) (by simp; omega) (.slice A3 ln c3)
      have bel4 := below_set (bstep bel bel.size bw3) (g := g) (by omega) j (.slice A3 ln c3)
      have lb := BX.lt
      have HS4 : Hid (∀ k, (S k ∨ S3 k) → w.heap.size < k) := Lib.hid fun k hk => by
        rcases hk with hk | hk
        · exact hS.out k hk
        · have := HS3 k hk; omega
      clear st1 st2 ow3 hS3 hb3 own BX bel HCC hS bw bw3
      go_wp2_with (fail)
      exact ⟨⟨j + 1, _, by go_num, by omega, O4, HS4, BX4, bel4⟩, by simp [intOf]; omega⟩
    · obtain rfl : j = x.R.length := by omega
      have hge : ¬ ((x.R.length : Int) < (x.R.length : Int)) := by omega
      rw [HUL.out] at own
      have HRD := Lib.hid (reduced_any x.P (x.C.toNat + x.R.length) _ (Num.wideR x.R) wr ((spRR x.P).own_rd own.out) HGP.out HW.out (by omega) (by rw [HWL.out]; omega))
      clear own hS
      go_wp2_with (fail)
      refine HRD.out.mono ?_; rintro e w2 ⟨u2, S2, rfl, ow2, hS2, hb2⟩
      have O2 := Lib.hid ow2
      clear ow2 HRD
      go_wp2_with (fail)
      go_ret
      exact Made.of rfl O2.out (fun k hk => by have := hS2 k hk; have := bel.size; omega) (bstep bel bel.size hb2)
end Go.Proofs.Ytggkoihlmijacaa
