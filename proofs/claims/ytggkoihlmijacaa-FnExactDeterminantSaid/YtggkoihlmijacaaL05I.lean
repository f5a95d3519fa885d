/- The program's Determinant. -/
import Derived.Test.YtggkoihlmijacaaL03J
import Derived.Test.YtggkoihlmijacaaL02Y
import Derived.Test.YtggkoihlmijacaaL02S
import Derived.Deep.RegionLaw
namespace Go.Proofs.Ytggkoihlmijacaa
open Go.RowKit
set_option linter.unusedVariables false
set_option linter.unusedSimpArgs false

theorem ChgS.past {S T : Nat → Prop} {a b c : World} (h : ChgS S a b) (k : ChgS T b c) (hT : ∀ i, T i → a.heap.size ≤ i) : ChgS S a c :=
  ⟨k.os.trans h.os, k.tape.trans h.tape, k.output.trans h.output, Nat.le_trans h.size k.size, fun i hi hr => (k.block i (by have := h.size; omega) (fun e => by have := hT i e; omega)).trans (h.block i hi hr)⟩
theorem Num.detI_odd {p : Int} {rows : List (List Int)} {j : Nat} (h : Num.passed p rows j % 2 = 1) : Num.detI p rows (j + 1) = Num.neg p (Num.detI p rows j * (Num.remV p rows j).getD (Num.lead (Num.remV p rows j)) 0 % p) := by
  show (if _ then _ else _) = _
  rw [if_pos h]
theorem Num.detI_even {p : Int} {rows : List (List Int)} {j : Nat} (h : ¬ Num.passed p rows j % 2 = 1) : Num.detI p rows (j + 1) = Num.detI p rows j * (Num.remV p rows j).getD (Num.lead (Num.remV p rows j)) 0 % p := by
  show (if _ then _ else _) = _
  rw [if_neg h]
set_option maxRecDepth 100000 in
set_option maxHeartbeats 3000000 in
theorem iDeterminant_ok (v0 : Value) (x0 : Mat) (w : World) (h0 : spMat.rd w v0 x0) (s0 : spMat.sz x0 ≤ 1048576) : Calls Try.prog 41 #[v0] w (RetI (rDeterminant x0) (cDeterminant x0) w) := by
  obtain ⟨A0, n0, c0, rfl, r0⟩ := spMat_form h0
  obtain ⟨rfl, -, -, -⟩ := rdII_of r0
  have L : Below w.heap.size w (w.alloc (.cells [.int .i64 x0.P, .int .i64 x0.C, .slice A0 x0.R.length c0].toArray 27)) := by go_grown
  have Ba0 : Blk (w.alloc (.cells [.int .i64 x0.P, .int .i64 x0.C, .slice A0 x0.R.length c0].toArray 27)) w.heap.size [.int .i64 x0.P, .int .i64 x0.C, .slice A0 x0.R.length c0] 27 := Blk.new w _ _
  have K0 := Lib.hid (spMat.rd_below h0 L)
  have HQ0 := squareCode_ok _ x0 _ K0.out
  clear h0 r0
  by_cases hs : x0.sq = 0
  · obtain ⟨hk, hn⟩ := Mat.sq_zero hs
    obtain ⟨hgp, hp1, hp2, hC0, hC1, hR8, hV⟩ := Mat.ok_out hk
    have HEC : Hid (cDeterminant x0 = 0) := Lib.hid hs
    have HER : Hid (rDeterminant x0 = Num.det x0.R.length (Num.matF x0.R) % x0.P) := Lib.hid (by unfold rDeterminant; rw [if_pos hs])
    have hCn : x0.C.toNat = x0.R.length := by omega
    rw [hCn] at hV
    rw [hs] at HQ0
    have HQ := Lib.hid HQ0
    have HRO : Hid (∀ W u, spMat.rd W u x0 → Calls Try.prog 48 #[u] W (Made (spRR x0.P) x0.R W)) := Lib.hid fun W u hu => rowsOf_any u x0 W hu hk
    have HONE : Hid (∀ W, Calls Try.prog 86 #[.int .i64 1, .int .i64 x0.P] W fun e w' => e = .returned (.agg #[.int .i64 1, .int .i64 x0.P]) ∧ Below W.heap.size W w') := Lib.hid fun W => by
      have := residueOf_any 1 x0.P W (by omega) (by omega)
      rwa [Int.emod_eq_of_lt (by omega) (by omega)] at this
    have HV := Lib.hid hV
    have HGP := Lib.hid hgp
    have HALL : Hid ((∀ i, i < x0.R.length → Num.lead (Num.remV x0.P x0.R i) < x0.R.length) → Num.detI x0.P x0.R x0.R.length = Num.det x0.R.length (Num.matF x0.R) % x0.P) := Lib.hid fun hz => Num.detI_all hgp rfl hV hz
    have HZERO : Hid (∀ j, j < x0.R.length → (∀ i, i < j → Num.lead (Num.remV x0.P x0.R i) < x0.R.length) → ¬ Num.lead (Num.remV x0.P x0.R j) < x0.R.length → Num.det x0.R.length (Num.matF x0.R) % x0.P = 0) := Lib.hid fun j hj hz h0 => Num.detI_zero hgp rfl hV hj hz h0
    have HBD := Lib.hid (Num.detI_bd (p := x0.P) (by omega) x0.R)
    clear hk hn hgp hC0 hC1 hV hCn HQ0 hs
    generalize Num.det x0.R.length (Num.matF x0.R) % x0.P = DET at *
    go_enter Try.func41, Try.ntmps41
    go_wp2_with (fail)
    refine HQ.out.mono ?_; rintro e w1 ⟨rfl, hb⟩
    replace L := bstep L L.size hb
    replace Ba0 := Ba0.below hb
    replace K0 := Lib.hid (spMat.rd_below K0.out hb)
    clear hb HQ
    obtain ⟨bla, qa0, qa1, qa2⟩ := Ba0.c3
    go_wp2_with (fail)
    refine (HONE.out _).mono ?_; rintro e w2 ⟨rfl, hb⟩
    clear bla qa0 qa1 qa2
    replace L := bstep L L.size hb
    replace Ba0 := Ba0.below hb
    replace K0 := Lib.hid (spMat.rd_below K0.out hb)
    clear hb HONE
    have BD := Blk.new w2 [.int .i64 1, .int .i64 x0.P] 60
    have ha : Below w2.heap.size w2 (w2.alloc (.cells [.int .i64 1, .int .i64 x0.P].toArray 60)) := (Below.refl _ _).alloc (Nat.le_refl _) _
    have hL2 := L.size
    replace L := bstep L L.size ha
    replace Ba0 := Ba0.below ha
    replace K0 := Lib.hid (spMat.rd_below K0.out ha)
    clear ha
    obtain ⟨bla, qa0, qa1, qa2⟩ := Ba0.c3
    go_wp2_with (fail)
    refine (HRO.out _ _ K0.out).mono ?_; rintro e w3 ⟨u1, S1, rfl, ow1, hS1, hb⟩
    clear bla qa0 qa1 qa2
    obtain ⟨A1, c1, rfl, -, -⟩ := (spRR x0.P).own_rd ow1
    have HS1 : Hid (∀ k, S1 k → ¬ k = w2.heap.size) := Lib.hid fun k hk => by have := hS1 k hk; simp at this; omega
    replace L := bstep L L.size hb
    replace BD := BD.below hb
    have hD := BD.lt
    have HO1 := Lib.hid ow1
    clear hb HRO ow1 hS1 K0 Ba0
    go_wp2_with (fail)
    generalize w2.heap.size = D0 at *
    have BD0 : Blk w3 D0 [.int .i64 (Num.detI x0.P x0.R 0), .int .i64 x0.P] 60 := BD
    clear BD
    go_loopw [6, 23] (fun s6 s23 wr => ∃ (j : Nat) (S : Nat → Prop), s23 = .int .i64 j ∧ j ≤ x0.R.length ∧ Hid ((spRR x0.P).own wr S s6 (Num.reduceR x0.P (x0.R.take j))) ∧ Hid (∀ k, S k → w3.heap.size ≤ k) ∧ Blk wr D0 [.int .i64 (Num.detI x0.P x0.R j), .int .i64 x0.P] 60 ∧ Hid (∀ i, i < j → Num.lead (Num.remV x0.P x0.R i) < x0.R.length) ∧ ChgS (fun k => k = D0) w3 wr) (fun _ s23 _ => x0.R.length - (intOf s23).toNat)
    case atStart => exact ⟨0, _, rfl, by omega, Lib.hid (spL_nil _ _ _ _), Lib.hid (fun k hk => hk.elim), BD0, Lib.hid (fun i hi => by omega), ChgS.refl _ _⟩
    case round =>
      obtain ⟨j, S, rfl, hj, own, hS, BD, HZ, chg⟩ := hrel
      clear BD0
      obtain ⟨bl, d0, d1⟩ := BD.c2
      have E := Num.ech_reduce HGP.out HV.out j hj
      have el : (Num.reduceR x0.P (x0.R.take j)).length ≤ 1000 := by have := Num.reduce_len (p := x0.P) (rows := x0.R.take j); rw [List.length_take] at this; omega
      by_cases hlt : j < x0.R.length
      · obtain ⟨g, o, u, rfl, hg, hc, hru⟩ := spL_row ((spRR x0.P).own_rd ((spRR x0.P).own_chg HO1.out chg HS1.out)) hlt
        have i0' : (0 : Int) ≤ (j : Int) := by omega
        have i1' : (j : Int) < (x0.R.length : Int) := by omega
        have ST := Lib.hid (Num.reduce_take (p := x0.P) hlt)
        have V0 := HV.out j hlt
        obtain ⟨Y, Y0⟩ := E.clear (by omega) V0
        have HRM := Lib.hid (remainder_any x0.P _ u (Num.reduceR x0.P (x0.R.take j)) (x0.R.getD j []) x0.R.length wr ((spRR x0.P).own_rd own.out) hru hp1 hp2 E.vec E.lt V0 (by omega) el)
        have HE := Lib.hid E
        have HBJ := HBD.out j
        have HODD := Lib.hid (Num.detI_odd (p := x0.P) (rows := x0.R) (j := j))
        have HEVN := Lib.hid (Num.detI_even (p := x0.P) (rows := x0.R) (j := j))
        have HZJ := Lib.hid (HZERO.out j hlt HZ.out)
        have HRV : Hid (Num.remV x0.P x0.R j = Num.clearV x0.P (Num.reduceR x0.P (x0.R.take j)) (x0.R.getD j [])) := Lib.hid rfl
        have HPS : Hid (Num.passed x0.P x0.R j = (Num.reduceR x0.P (x0.R.take j)).length - Num.place (Num.reduceR x0.P (x0.R.take j)) (Num.lead (Num.remV x0.P x0.R j))) := Lib.hid rfl
        have HZS : Hid (Num.lead (Num.remV x0.P x0.R j) < x0.R.length → ∀ i, i < j + 1 → Num.lead (Num.remV x0.P x0.R i) < x0.R.length) := Lib.hid fun h i hi => by
          by_cases e : i = j
          · rw [e]; exact h
          · exact HZ.out i (by omega)
        unfold Num.reduceStep at ST
        rw [← HRV.out] at ST
        rw [← HRV.out] at HRM Y Y0
        obtain ⟨Ae, ce, rfl, -, -⟩ := (spRR x0.P).own_rd own.out
        clear hru V0 E HRV HZ
        generalize Num.remV x0.P x0.R j = y at *
        generalize Num.reduceR x0.P (x0.R.take j) = e at *
        generalize Num.passed x0.P x0.R j = ps at *
        generalize hdj : Num.detI x0.P x0.R j = dj at *
        clear hdj
        have yl1 : y.length ≤ x0.R.length := Nat.le_of_eq Y.len
        have yl2 : x0.R.length ≤ y.length := Nat.le_of_eq Y.len.symm
        have HY := Lib.hid Y
        have HY0 := Lib.hid Y0
        clear Y Y0
        go_wp2_with (fail)
        refine HRM.out.mono ?_; rintro e' w4 ⟨u2, T, rfl, ow2, hT, hb2⟩
        obtain ⟨U2, cU2, rfl, -⟩ := spR_form ((spR x0.P).own_rd ow2)
        have hws := chg.size
        have HO2 := Lib.hid ((spRR x0.P).own_below own.out hb2)
        have HL := Lib.hid (pivotOf_any x0.P _ y w4 ((spR x0.P).own_rd ow2) (by omega))
        have HW2 := Lib.hid ow2
        have HT2 : Hid (∀ k, T k → w3.heap.size ≤ k) := Lib.hid fun k hk => by have := hT k hk; omega
        have HD2 : Hid (∀ k, S k → ¬ T k) := Lib.hid fun k h1 h2 => by have := (spRR x0.P).own_lt own.out h1; have := hT k h2; omega
        replace BD := BD.below hb2
        replace chg := chg.trans (ChgS.of_below hb2)
        have hle := Num.lead_le y
        clear hb2 hT ow2 HRM own hc bl d0 d1
        go_wp2_with (fail)
        refine HL.out.mono ?_; rintro e' w4' ⟨rfl, rfl⟩
        by_cases hz : Num.lead y = y.length
        · have HDZ := Lib.hid (HZJ.out (by omega))
          have hzb : ((Num.lead y : Nat) : Int) = (y.length : Int) := by omega
          have hyb : (y.length : Int) ≤ 1000 := by omega
          rw [hz]
          clear HL hz hzb
          go_wp2_with (fail)
          refine bodyPost_ret (v := .tuple #[.int .i64 0, .int .i64 0]) (by simp [results, Try.results41, go_sem]) rfl ?_
          rw [HER.out, HEC.out, HDZ.out]
          exact ⟨rfl, L.trans (chg.below (fun k hk => by omega) L.size)⟩
        · have hlt2 : Num.lead y < y.length := by omega
          obtain ⟨gy, cgy, e1, hTg, hgl, a0, a1, f0, f1⟩ := spR_own_at HW2.out (j := Num.lead y) hlt2
          simp only [Value.slice.injEq] at e1
          obtain ⟨rfl, -, rfl⟩ := e1
          obtain ⟨bl, d0, d1⟩ := BD.c2
          have fd0 := BD.free 0
          have fd1 := BD.free 1
          have yk0 := HY.out.lo (Num.lead y)
          have yk1 := HY.out.hi (Num.lead y)
          have HTM : Hid (∀ W, Calls Try.prog 91 #[.agg #[.int .i64 dj, .int .i64 x0.P], .agg #[.int .i64 (y.getD (Num.lead y) 0), .int .i64 x0.P]] W fun e w' => e = .returned (.agg #[.int .i64 (dj * y.getD (Num.lead y) 0 % x0.P), .int .i64 x0.P]) ∧ Below W.heap.size W w') := Lib.hid fun W => times_any dj _ x0.P x0.P W (by omega) (by omega) HBJ.1 HBJ.2 yk0 yk1
          have nzb := Num.mod_bd (dj * y.getD (Num.lead y) 0) (m := x0.P) (by omega)
          have HNG : Hid (∀ W, Calls Try.prog 93 #[.agg #[.int .i64 (dj * y.getD (Num.lead y) 0 % x0.P), .int .i64 x0.P]] W fun e w' => e = .returned (.agg #[.int .i64 (Num.neg x0.P (dj * y.getD (Num.lead y) 0 % x0.P)), .int .i64 x0.P]) ∧ Below W.heap.size W w') := Lib.hid fun W => negated_any _ x0.P W (by omega) (by omega) nzb.1 nzb.2
          have HPL : Hid (∀ W, (spRR x0.P).rd W (.slice Ae e.length ce) e → Calls Try.prog 92 #[.slice Ae e.length ce, .int .i64 (Num.lead y : Nat)] W fun e' w' => e' = .returned (.int .i64 (Num.place e (Num.lead y) : Nat)) ∧ W = w') := Lib.hid fun W hW => place_any x0.P _ e (Num.lead y) W hW el (fun i hi => by rw [(HE.out.vec i hi).len]; omega) (by omega)
          rw [if_neg hz] at ST
          have HIN : Hid (∀ W, (spRR x0.P).own W S (.slice Ae e.length ce) e → (spR x0.P).own W T (.slice (some ⟨gy, 0, none⟩) y.length cU2) y → Calls Try.prog 94 #[.slice Ae e.length ce, .slice (some ⟨gy, 0, none⟩) y.length cU2] W fun e' w' => ∃ v' S', e' = .returned v' ∧ (spRR x0.P).own w' S' v' (Num.reduceR x0.P (x0.R.take (j + 1))) ∧ (∀ k, S' k → S k ∨ T k ∨ W.heap.size ≤ k) ∧ ChgS (fun k => S k ∨ T k) W w') := Lib.hid fun W h1 h2 => by
            rw [ST.out]
            exact iInsert_any x0.P x0.R.length _ _ e y S T W h1 h2 HD2.out HGP.out HE.out HY.out HY0.out (by omega) (by omega) el
          have HZ1 := Lib.hid (HZS.out (by omega))
          have nS : ¬ S D0 := fun h => by have := hS.out _ h; omega
          have nT : ¬ T D0 := fun h => by have := HT2.out _ h; omega
          have nST : ¬ (S D0 ∨ T D0) := fun h => h.elim nS nT
          have hst : ∀ q, S q ∨ T q → w3.heap.size ≤ q := fun q h => h.elim (hS.out q) (HT2.out q)
          have HST := Lib.hid hst
          have hpe := Num.place_le e (Num.lead y)
          have k0 : (0 : Int) ≤ (Num.lead y : Int) := by omega
          have k1 : (Num.lead y : Int) < (y.length : Int) := by omega
          have k2 : (Num.lead y : Int) ≤ 1000 := by omega
          have kb : ((Num.lead y : Int) == (y.length : Int)) = false := by rw [beq_eq_false_iff_ne]; omega
          have hps := HPS.out
          clear HPS ST HZS HZJ HY HY0 HE hz hst HALL HZERO HV HGP
          generalize Num.place e (Num.lead y) = pl at *
          generalize y.getD (Num.lead y) 0 = yk at *
          generalize Num.lead y = k at *
          go_wp2_with (fail)
          go_region_law (first | (go_simp; go_at_call 91; refine (HTM.out _).mono ?_; rintro e' w5 ⟨rfl, hb5⟩; have SM : w5.cell? ⟨D0, 0, none⟩ = some (.int .i64 dj) ∧ w5.cell? ⟨D0, 1, none⟩ = some (.int .i64 x0.P) ∧ w5.frozen? ⟨D0, 0, none⟩ = false ∧ w5.frozen? ⟨D0, 1, none⟩ = false := ⟨(by rw [hb5.cell bl]; exact d0), (by rw [hb5.cell bl]; exact d1), (by rw [hb5.frozen bl]; exact fd0), (by rw [hb5.frozen bl]; exact fd1)⟩))
          all_goals
            have hb5' : Below w4.heap.size w4 w5 := ((Below.refl _ _).drew).trans hb5
            have O6 := Lib.hid ((spRR x0.P).own_set ((spRR x0.P).own_set ((spRR x0.P).own_below HO2.out hb5') (p := ⟨D0, 0, none⟩) nS (.int .i64 (dj * yk % x0.P))) (p := ⟨D0, 1, none⟩) nS (.int .i64 x0.P))
            have Y6 := Lib.hid ((spR x0.P).own_set ((spR x0.P).own_set ((spR x0.P).own_below HW2.out hb5') (p := ⟨D0, 0, none⟩) nT (.int .i64 (dj * yk % x0.P))) (p := ⟨D0, 1, none⟩) nT (.int .i64 x0.P))
            have BD6 : Blk ((w5.setCell ⟨D0, 0, none⟩ (.int .i64 (dj * yk % x0.P))).setCell ⟨D0, 1, none⟩ (.int .i64 x0.P)) D0 [.int .i64 (dj * yk % x0.P), .int .i64 x0.P] 60 := ((BD.below hb5').set 0 (.int .i64 (dj * yk % x0.P))).set 1 (.int .i64 x0.P)
            have C6 : ChgS (fun q => q = D0) w3 ((w5.setCell ⟨D0, 0, none⟩ (.int .i64 (dj * yk % x0.P))).setCell ⟨D0, 1, none⟩ (.int .i64 x0.P)) := (chg.trans (ChgS.of_below hb5')).trans (chg_set2 (S := fun q => q = D0) (w := w5) (g := D0) (i := 0) (j := 1) rfl (.int .i64 (dj * yk % x0.P)) (.int .i64 x0.P))
            clear SM hb5 hb5' BD HO2 HW2 chg d0 d1 fd0 fd1 bl a0 a1 f0 f1 hgl hTg HTM
            generalize hw6 : (w5.setCell ⟨D0, 0, none⟩ (.int .i64 (dj * yk % x0.P))).setCell ⟨D0, 1, none⟩ (.int .i64 x0.P) = w6 at *
            clear hw6
            generalize dj * yk % x0.P = z at *
            have HP6 := Lib.hid (HPL.out _ ((spRR x0.P).own_rd O6.out))
            obtain ⟨bl, d0, d1⟩ := BD6.c2
            by_cases ho : ps % 2 = 1
            · have htm : Int.tmod ((e.length : Int) - (pl : Int)) 2 = 1 := by rw [show (e.length : Int) - (pl : Int) = (ps : Int) by omega, Int.tmod_eq_emod_of_nonneg (by omega)]; omega
              have HD := HODD.out ho
              clear HODD HEVN HPL hps ho
              go_wp2_with (fail)
              refine HP6.out.mono ?_; rintro e' w6' ⟨rfl, rfl⟩
              go_wp2_with (fail)
              refine (HNG.out _).mono ?_; rintro e' w7 ⟨rfl, hb7⟩
              have BD7 := BD6.below hb7
              have O7 := Lib.hid ((spRR x0.P).own_set ((spRR x0.P).own_set ((spRR x0.P).own_below O6.out hb7) (p := ⟨D0, 0, none⟩) nS (.int .i64 (Num.neg x0.P z))) (p := ⟨D0, 1, none⟩) nS (.int .i64 x0.P))
              have Y7 := Lib.hid ((spR x0.P).own_set ((spR x0.P).own_set ((spR x0.P).own_below Y6.out hb7) (p := ⟨D0, 0, none⟩) nT (.int .i64 (Num.neg x0.P z))) (p := ⟨D0, 1, none⟩) nT (.int .i64 x0.P))
              have BD8 : Blk ((w7.setCell ⟨D0, 0, none⟩ (.int .i64 (Num.neg x0.P z))).setCell ⟨D0, 1, none⟩ (.int .i64 x0.P)) D0 [.int .i64 (Num.neg x0.P z), .int .i64 x0.P] 60 := (BD7.set 0 (.int .i64 (Num.neg x0.P z))).set 1 (.int .i64 x0.P)
              have C7 : ChgS (fun q => q = D0) w3 ((w7.setCell ⟨D0, 0, none⟩ (.int .i64 (Num.neg x0.P z))).setCell ⟨D0, 1, none⟩ (.int .i64 x0.P)) := (C6.trans (ChgS.of_below hb7)).trans (chg_set2 (S := fun q => q = D0) (w := w7) (g := D0) (i := 0) (j := 1) rfl (.int .i64 (Num.neg x0.P z)) (.int .i64 x0.P))
              clear bl d0 d1 BD6 O6 Y6 C6
              obtain ⟨bl, d0, d1⟩ := BD7.c2
              have fd0 := BD7.free 0
              have fd1 := BD7.free 1
              have HI7 := Lib.hid (HIN.out _ O7.out Y7.out)
              clear hb7 BD7
              go_wp2_with (fail)
              refine HI7.out.mono ?_; rintro e' w8 ⟨v8, S8, rfl, ow8, hS8, ch8⟩
              have hc7 := C7.size
              have HS8 : Hid (∀ q, S8 q → w3.heap.size ≤ q) := Lib.hid fun q hq => by
                rcases hS8 q hq with h | h | h
                · exact HST.out q (.inl h)
                · exact HST.out q (.inr h)
                · omega
              have BD9 : Blk w8 D0 [.int .i64 (Num.detI x0.P x0.R (j + 1)), .int .i64 x0.P] 60 := by rw [HD]; exact BD8.chg ch8 nST
              have C8 := C7.past ch8 HST.out
              have O8 := Lib.hid ow8
              clear ow8 hS8 ch8 bl d0 d1 fd0 fd1 BD8 O7 Y7 C7 HI7 HD
              go_wp2_with (fail)
              exact ⟨⟨j + 1, S8, by go_num, by omega, O8, HS8, BD9, HZ1, C8⟩, by simp [intOf]; omega⟩
            · have htm : Int.tmod ((e.length : Int) - (pl : Int)) 2 = 0 := by rw [show (e.length : Int) - (pl : Int) = (ps : Int) by omega, Int.tmod_eq_emod_of_nonneg (by omega)]; omega
              have HD := HEVN.out ho
              clear HODD HEVN HPL hps ho
              go_wp2_with (fail)
              refine HP6.out.mono ?_; rintro e' w6' ⟨rfl, rfl⟩
              have HI7 := Lib.hid (HIN.out _ O6.out Y6.out)
              go_wp2_with (fail)
              refine HI7.out.mono ?_; rintro e' w8 ⟨v8, S8, rfl, ow8, hS8, ch8⟩
              have hc7 := C6.size
              have HS8 : Hid (∀ q, S8 q → w3.heap.size ≤ q) := Lib.hid fun q hq => by
                rcases hS8 q hq with h | h | h
                · exact HST.out q (.inl h)
                · exact HST.out q (.inr h)
                · omega
              have BD9 : Blk w8 D0 [.int .i64 (Num.detI x0.P x0.R (j + 1)), .int .i64 x0.P] 60 := by rw [HD]; exact BD6.chg ch8 nST
              have C8 := C6.past ch8 HST.out
              have O8 := Lib.hid ow8
              clear ow8 hS8 ch8 bl d0 d1 BD6 O6 Y6 C6 HI7 HD
              go_wp2_with (fail)
              exact ⟨⟨j + 1, S8, by go_num, by omega, O8, HS8, BD9, HZ1, C8⟩, by simp [intOf]; omega⟩
      · obtain rfl : j = x0.R.length := by omega
        have hge : ¬ ((x0.R.length : Int) < (x0.R.length : Int)) := by omega
        rw [HALL.out HZ.out] at d0
        clear E el
        go_wp2_with (fail)
        refine bodyPost_ret (v := .tuple #[.int .i64 DET, .int .i64 0]) (by simp [results, Try.results41, go_sem]) rfl ?_
        rw [HER.out, HEC.out]
        exact ⟨rfl, L.trans (chg.below (fun k hk => by omega) L.size)⟩
  · have HEC : Hid (cDeterminant x0 = x0.sq) := Lib.hid rfl
    have HER : Hid (rDeterminant x0 = 0) := Lib.hid (by unfold rDeterminant; rw [if_neg hs])
    have HQ := Lib.hid HQ0
    have hcb : (x0.sq == 0) = false := by simpa using hs
    have hcn : (x0.sq != 0) = true := by simpa using hs
    clear HQ0 hs
    generalize x0.sq = q at *
    go_enter Try.func41, Try.ntmps41
    go_wp2_with (fail)
    refine HQ.out.mono ?_; rintro e w1 ⟨rfl, hb⟩
    replace L := bstep L L.size hb
    go_wp2_with (fail)
    refine bodyPost_ret (v := .tuple #[.int .i64 0, .int .i64 q]) (by simp [results, Try.results41, go_sem]) rfl ?_
    rw [HER.out, HEC.out]
    exact ⟨rfl, L⟩
end Go.Proofs.Ytggkoihlmijacaa
