/- Rows reduced, one behind the other. -/
import Derived.Test.YtggkoihlmijacaaL02Y
namespace Go.Proofs.Ytggkoihlmijacaa
open Go.RowKit
set_option linter.unusedVariables false
set_option linter.unusedSimpArgs false

set_option maxRecDepth 100000 in
set_option maxHeartbeats 1000000 in
theorem reduced_any (p : Int) (n : Nat) (rv : Value) (rows : List (List Int)) (w : World) (hr : (spRR p).rd w rv rows) (hgp : Num.gp p = true) (hrv : ∀ i, i < rows.length → Num.Vec p n (rows.getD i [])) (hn : n ≤ 1000) (hl : rows.length ≤ 1000) :
    Calls Try.prog 50 #[rv] w (Made (spRR p) (Num.reduceR p rows) w) := by
  obtain ⟨hp1, hp2⟩ := Num.gp_le hgp
  have hr0 := hr
  obtain ⟨A, cA, rfl, -, -⟩ := hr0
  have HR := Lib.hid hr
  have HRV := Lib.hid hrv
  have HGP := Lib.hid hgp
  clear hr hrv hgp
  go_enter Try.func50, Try.ntmps50
  go_wp2_with (fail)
  go_loopw [3, 9] (fun s3 s9 wr => ∃ (j : Nat) (S : Nat → Prop), s9 = .int .i64 j ∧ j ≤ rows.length ∧ Hid ((spRR p).own wr S s3 (Num.reduceR p (rows.take j))) ∧ Hid (∀ k, S k → w.heap.size ≤ k) ∧ Below w.heap.size w wr) (fun _ s9 _ => rows.length - (intOf s9).toNat)
  case atStart => exact ⟨0, _, rfl, by omega, Lib.hid (spL_nil _ _ _ _), Lib.hid (fun k hk => hk.elim), Below.refl _ _⟩
  case round =>
    obtain ⟨j, S, rfl, hj, own, hS, bel⟩ := hrel
    have E := Num.ech_reduce HGP.out HRV.out j hj
    have el : (Num.reduceR p (rows.take j)).length ≤ 1000 := by have := Num.reduce_len (p := p) (rows := rows.take j); rw [List.length_take] at this; omega
    by_cases hlt : j < rows.length
    · obtain ⟨g, o, u, rfl, hg, hc0, hru⟩ := spL_row HR.out hlt
      have hc : wr.cell? ⟨g, o + j, none⟩ = some u := by rw [bel.cell hg]; exact hc0
      have i0' : (0 : Int) ≤ (j : Int) := by omega
      have i1' : (j : Int) < (rows.length : Int) := by omega
      have ST := Lib.hid (Num.reduce_take (p := p) hlt)
      have V0 := HRV.out j hlt
      obtain ⟨Y, Y0⟩ := E.clear (by omega) V0
      have HRM := Lib.hid (remainder_any p _ u (Num.reduceR p (rows.take j)) (rows.getD j []) n wr ((spRR p).own_rd own.out) ((spR p).rd_below hru bel) hp1 hp2 E.vec E.lt V0 hn el)
      have HE := Lib.hid E
      unfold Num.reduceStep at ST
      clear hru hc0 V0 E
      generalize hy : Num.clearV p (Num.reduceR p (rows.take j)) (rows.getD j []) = y at *
      generalize he : Num.reduceR p (rows.take j) = e at *
      have yl1 : y.length ≤ n := Nat.le_of_eq Y.len
      have yl2 : n ≤ y.length := Nat.le_of_eq Y.len.symm
      have HY := Lib.hid Y
      have HY0 := Lib.hid Y0
      clear hy he Y Y0
      go_wp2_with (fail)
      refine HRM.out.mono ?_; rintro e' w2 ⟨u2, T, rfl, ow2, hT, hb2⟩
      obtain ⟨U2, cU2, rfl, -⟩ := spR_form ((spR p).own_rd ow2)
      have HO2 := Lib.hid ((spRR p).own_below own.out hb2)
      have bel2 := bstep bel bel.size hb2
      have HL := Lib.hid (pivotOf_any p _ y w2 ((spR p).own_rd ow2) (by omega))
      have HW2 := Lib.hid ow2
      have HT2 : Hid (∀ k, T k → w.heap.size ≤ k) := Lib.hid fun k hk => by have := hT k hk; have := bel.size; omega
      have HD2 : Hid (∀ k, S k → ¬ T k) := Lib.hid fun k h1 h2 => by have := (spRR p).own_lt own.out h1; have := hT k h2; omega
      have hle := Num.lead_le y
      clear hb2 hT ow2 HRM own bel hc
      go_wp2_with (fail)
      refine HL.out.mono ?_; rintro e' w2' ⟨rfl, rfl⟩
      by_cases hz : Num.lead y = y.length
      · rw [if_pos hz] at ST
        have hb1 : (y.length : Int) ≤ 1000 := by omega
        have hnl : ¬ ((y.length : Int) < (y.length : Int)) := by omega
        rw [hz]
        clear HL hz
        go_wp2_with (fail)
        exact ⟨⟨j + 1, S, by go_num, by omega, Lib.hid (by rw [ST.out]; exact HO2.out), hS, bel2⟩, by simp [intOf]; omega⟩
      · rw [if_neg hz] at ST
        have hlt2 : (Num.lead y : Int) < (y.length : Int) := by omega
        have hk2 : (Num.lead y : Int) ≤ 1000 := by omega
        have HIN := Lib.hid (iInsert_any p n _ (.slice U2 y.length cU2) e y S T w2 HO2.out HW2.out HD2.out HGP.out HE.out HY.out HY0.out (by omega) hn el)
        clear HL hz
        generalize hlv : Num.lead y = lv at *
        have HLV := Lib.hid hlv
        clear hlv
        go_wp2_with (fail)
        refine HIN.out.mono ?_; rintro e' w3 ⟨v3, S3, rfl, ow3, hS3, ch3⟩
        have O3 : Hid ((spRR p).own w3 S3 v3 (Num.reduceR p (rows.take (j + 1)))) := Lib.hid (by rw [ST.out]; exact ow3)
        have HS3 : Hid (∀ k, S3 k → w.heap.size ≤ k) := Lib.hid fun k hk => by
          rcases hS3 k hk with h1 | h1 | h1
          · exact hS.out k h1
          · exact HT2.out k h1
          · have := bel2.size; omega
        have bel3 : Below w.heap.size w w3 := bel2.trans (ch3.below (fun k hk => by
          rcases hk with h1 | h1
          · exact hS.out k h1
          · exact HT2.out k h1) bel2.size)
        clear ow3 hS3 ch3 HIN
        go_wp2_with (fail)
        exact ⟨⟨j + 1, S3, by go_num, by omega, O3, HS3, bel3⟩, by simp [intOf]; omega⟩
    · obtain rfl : j = rows.length := by omega
      have hge : ¬ ((rows.length : Int) < (rows.length : Int)) := by omega
      rw [List.take_length] at own
      clear E el
      go_wp2_with (fail)
      go_ret
      exact Made.of rfl own.out hS.out bel
end Go.Proofs.Ytggkoihlmijacaa
