/- The model's rows cleared with others. -/
import Derived.Test.YtggkoihlmijacaaL02I
namespace Go.Proofs.Ytggkoihlmijacaa
open Go.RowKit
set_option linter.unusedVariables false
set_option linter.unusedSimpArgs false

set_option maxRecDepth 100000 in
set_option maxHeartbeats 1000000 in
theorem sClear_any (p : Int) (rv v : Value) (rows : List (List Int)) (xs : List Int) (n : Nat) (w : World) (hr : spII.rd w rv rows) (h : spI.rd w v xs) (hp1 : 2 ≤ p) (hp2 : p ≤ 7) (hrv : ∀ i, i < rows.length → Num.Vec p n (rows.getD i [])) (hx : Num.Vec p n xs) (hn : n ≤ 1000) (hrl : rows.length ≤ 1000) :
    Calls Try.prog 55 #[.int .i64 p, rv, v] w (Made spI (Num.clearV p rows xs) w) := by
  have hr0 := hr
  obtain ⟨A, cA, rfl, -, -⟩ := hr0
  have HR := Lib.hid hr
  have HV := Lib.hid (sOwn_any v xs w h (by have := hx.len; omega))
  have HRV := Lib.hid hrv
  have HX := Lib.hid hx
  clear hr h hrv hx
  go_enter Try.func55, Try.ntmps55
  go_wp2_with (fail)
  refine HV.out.mono ?_; rintro e w2 ⟨u2, S2, rfl, ow2, hS2, hb2⟩
  have HO2 := Lib.hid ow2
  have HS2 := Lib.hid hS2
  clear ow2 hS2
  go_wp2_with (fail)
  go_loopw [7, 8] (fun s7 s8 wr => ∃ (j : Nat) (S : Nat → Prop), s8 = .int .i64 j ∧ j ≤ rows.length ∧ Hid (spI.own wr S s7 (Num.clearV p (rows.take j) xs)) ∧ Hid (∀ k, S k → w.heap.size ≤ k) ∧ Below w.heap.size w wr) (fun _ s8 _ => rows.length - (intOf s8).toNat)
  case atStart => exact ⟨0, S2, rfl, by omega, Lib.hid (by simpa [Num.clearV] using HO2.out), HS2, hb2⟩
  case round =>
    obtain ⟨j, S, rfl, hj, own, hS, bel⟩ := hrel
    have Y := Num.vec_clear (p := p) (by omega) (rows.take j) xs HX.out
    obtain ⟨U, cU, rfl, -, -⟩ := spI_form (spI.own_rd own.out)
    by_cases hlt : j < rows.length
    · obtain ⟨g, o, u, rfl, hg, hc, hru⟩ := spL_row (spII.rd_below HR.out bel) hlt
      have i0 : (0 : Int) ≤ (j : Int) := by omega
      have i1 : (j : Int) < (rows.length : Int) := by omega
      have V := HRV.out j hlt
      have ET := Num.clear_take (p := p) (v := xs) hlt
      have vl := V.len
      have yl := Y.len
      have HL := Lib.hid (sLead_any u (rows.getD j []) wr hru (by omega))
      have hle := Num.lead_le (rows.getD j [])
      by_cases hk : Num.lead (rows.getD j []) < n ∧ (Num.clearV p (rows.take j) xs).getD (Num.lead (rows.getD j [])) 0 ≠ 0
      · obtain ⟨hk1, hk2⟩ := hk
        obtain ⟨g', cg, e1, hSg, hgl, a0, -⟩ := spI_own_at own.out (j := Num.lead (rows.getD j [])) (by omega)
        simp only [Value.slice.injEq] at e1
        obtain ⟨rfl, -, rfl⟩ := e1
        have y0 := Y.lo (Num.lead (rows.getD j []))
        have y1 := Y.hi (Num.lead (rows.getD j []))
        have hne : ((Num.clearV p (rows.take j) xs).getD (Num.lead (rows.getD j [])) 0 != 0) = true := by simpa using hk2
        have en := Num.neg_pos (p := p) (x := (Num.clearV p (rows.take j) xs).getD (Num.lead (rows.getD j [])) 0) (by omega) y1
        unfold Num.clearStep at ET
        rw [en] at ET
        have HC := Lib.hid (sAdd_any p (p - (Num.clearV p (rows.take j) xs).getD (Num.lead (rows.getD j [])) 0) _ u (Num.clearV p (rows.take j) xs) (rows.getD j []) n wr.drew (spI.rd_drew (spI.own_rd own.out)) (spI.rd_drew hru) hp1 hp2 (by omega) (by omega) Y V hn)
        rw [← ET] at HC
        have k0 : (0 : Int) ≤ (Num.lead (rows.getD j []) : Int) := by omega
        have k1 : (Num.lead (rows.getD j []) : Int) < ((Num.clearV p (rows.take j) xs).length : Int) := by omega
        have b1 : (Num.lead (rows.getD j []) : Int) ≤ 1000 := by omega
        clear ET own hru V Y vl yl hle hk1 hk2 en
        generalize (Num.clearV p (rows.take j) xs).getD (Num.lead (rows.getD j [])) 0 = y at *
        generalize Num.lead (rows.getD j []) = k at *
        generalize (Num.clearV p (rows.take j) xs).length = m at *
        have wr1 : IntKind.i64.wrap (p - y) = p - y := IntWalk.i64_in _ (by omega)
        go_wp2_with (fail)
        refine HL.out.mono ?_; rintro e w3 ⟨rfl, rfl⟩
        go_wp2_with (fail)
        go_region_held3 (fun wx => wx.cell? ⟨g', k, none⟩ = some (.int .i64 y) ∧ wx.cell? ⟨g, o + j, none⟩ = some u) (first | go_keep | assumption) (first | (go_at_call 101; refine HC.out.mono ?_; rintro e w4 ⟨u4, S4, rfl, ow4, hS4, hb4⟩; have SM : w4.cell? ⟨g', k, none⟩ = some (.int .i64 y) ∧ w4.cell? ⟨g, o + j, none⟩ = some u := ⟨(by rw [hb4.cell (by exact hgl)]; exact a0), (by rw [hb4.cell (by exact hg)]; exact hc)⟩))
        all_goals
          have HO4 := Lib.hid ow4
          have hz : wr.heap.size ≤ wr.drew.heap.size := Nat.le_refl _
          have HS4 : Hid (∀ k, S4 k → w.heap.size ≤ k) := Lib.hid fun k hk => by have := hS4 k hk; have := bel.size; omega
          have bel4 := bstep bel.drew (by have := bel.size; omega) hb4
          clear ow4 hS4 hb4 SM
          go_wp2_with (fail)
          exact ⟨⟨j + 1, S4, by go_num, by omega, HO4, HS4, bel4⟩, by simp [intOf]; omega⟩
      · have hsk : (Num.clearV p (rows.take j) xs).getD (Num.lead (rows.getD j [])) 0 = 0 := by
          by_cases a : Num.lead (rows.getD j []) < n
          · by_cases b : (Num.clearV p (rows.take j) xs).getD (Num.lead (rows.getD j [])) 0 = 0
            · exact b
            · exact absurd ⟨a, b⟩ hk
          · exact Num.getD_ge _ _ (by omega)
        rw [Num.clear_skip Y vl hsk] at ET
        by_cases hk1 : Num.lead (rows.getD j []) < n
        · obtain ⟨g', cg, e1, hSg, hgl, a0, -⟩ := spI_own_at own.out (j := Num.lead (rows.getD j [])) (by omega)
          simp only [Value.slice.injEq] at e1
          obtain ⟨rfl, -, rfl⟩ := e1
          rw [hsk] at a0
          have k0 : (0 : Int) ≤ (Num.lead (rows.getD j []) : Int) := by omega
          have k1 : (Num.lead (rows.getD j []) : Int) < ((Num.clearV p (rows.take j) xs).length : Int) := by omega
          have b1 : (Num.lead (rows.getD j []) : Int) ≤ 1000 := by omega
          have own' : Hid (spI.own wr S (.slice (some ⟨g', 0, none⟩) (Num.clearV p (rows.take j) xs).length cU) (Num.clearV p (rows.take (j + 1)) xs)) := Lib.hid (by rw [ET]; exact own.out)
          clear own
          clear ET hru V Y vl yl hle hk1 hk hsk
          generalize Num.lead (rows.getD j []) = k at *
          generalize (Num.clearV p (rows.take j) xs).length = m at *
          go_wp2_with (fail)
          refine HL.out.mono ?_; rintro e w3 ⟨rfl, rfl⟩
          go_wp2_with (fail)
          exact ⟨⟨j + 1, S, by go_num, by omega, own', hS, bel⟩, by simp [intOf]; omega⟩
        · have k1 : ¬ ((Num.lead (rows.getD j []) : Int) < ((Num.clearV p (rows.take j) xs).length : Int)) := by omega
          have b1 : (Num.lead (rows.getD j []) : Int) ≤ 1000 := by omega
          have own' : Hid (spI.own wr S (.slice U (Num.clearV p (rows.take j) xs).length cU) (Num.clearV p (rows.take (j + 1)) xs)) := Lib.hid (by rw [ET]; exact own.out)
          clear own
          clear ET hru V Y vl yl hle hk1 hk hsk
          generalize Num.lead (rows.getD j []) = k at *
          generalize (Num.clearV p (rows.take j) xs).length = m at *
          go_wp2_with (fail)
          refine HL.out.mono ?_; rintro e w3 ⟨rfl, rfl⟩
          go_wp2_with (fail)
          exact ⟨⟨j + 1, S, by go_num, by omega, own', hS, bel⟩, by simp [intOf]; omega⟩
    · have hge : ¬ ((j : Int) < (rows.length : Int)) := by omega
      obtain rfl : j = rows.length := by omega
      rw [List.take_length] at own
      clear Y
      go_wp2_with (fail)
      go_ret
      exact Made.of rfl own.out hS.out bel
end Go.Proofs.Ytggkoihlmijacaa
