/- Collection of the program: a step. -/
import Derived.Test.YtahmhdpgdhfjnaaL13F
import Derived.WalkMore
namespace Go.Proofs.Ytahmhdpgdhfjnaa
open Go.RowKit
set_option linter.unusedVariables false
set_option linter.unusedSimpArgs false

theorem Num.ruL_len {q : Num.Rel} (h : Num.R9 q) : (Num.ruL q).length ≤ 7 := by
  unfold Num.ruL
  have := h.o7
  split
  · rw [List.length_replicate]; omega
  · simp
theorem Num.ruR_len {q : Num.Rel} (h : Num.R9 q) : (Num.ruR q).length ≤ 385 := by
  have h1 := Num.wrd_len h.xb
  have h2 := h.xl
  unfold Num.ruR
  split
  · omega
  · simp; omega
theorem Num.V9.of {O : List Int} {W : List (List Int)} {J : List (List (List Int))} (h : Num.preB O W J = true) : Num.V9 O W J := by
  obtain ⟨h1, h2, h3, h4, h5⟩ := Num.preB_out h
  obtain ⟨h6, hg, -⟩ := Num.ordC_zero h1
  have fit : ∀ x z, Num.fitB O x z = true → x.length = O.length ∧ ∀ j, j < O.length → 0 ≤ x.getD j 0 ∧ x.getD j 0 ≤ 6 := fun x z hf => by
    obtain ⟨e1, e2⟩ := Num.fitB_out hf
    refine ⟨e1, fun j hj => ?_⟩
    have a := e2 j (by omega)
    unfold Num.Fit at a
    have b := Num.gpsB_at hg (j := j) hj
    exact ⟨a.1, by omega⟩
  refine ⟨h6, h2, h3, fun i hi => (Num.conB_out (h5 i hi)).1, fun i hi => Num.gpsB_at hg hi, fun i hi => fit _ _ (h4 i hi), fun i k hi hk => ?_⟩
  obtain ⟨c1, c2⟩ := Num.conB_out (h5 i hi)
  exact fit _ _ (c2 k (by rw [c1]; exact hk))
/-- The index that a step tells. -/
def Num.stI (O x : List Int) : Int := if Num.atW O x < x.length then (Num.atW O x : Int) else -1
theorem Num.stI_yes {O x : List Int} (h : Num.atW O x < x.length) : Num.stI O x = (Num.atW O x : Int) := if_pos h
theorem Num.stI_no {O x : List Int} (h : ¬ Num.atW O x < x.length) : Num.stI O x = -1 := if_neg h
/-- What a step of the program leaves. -/
def CStep (O : List Int) (W : List (List Int)) (J : List (List (List Int))) (x : List Int) (w : World) (v : Value) (e : Ending) (w' : World) : Prop := ∃ u, e = .returned (.tuple #[u, .int .i64 (Num.stI O x)]) ∧ (Num.atW O x < x.length → OwnI w' w.heap.size u (Num.stpW O W J x (Num.atW O x))) ∧ (¬ Num.atW O x < x.length → u = v) ∧ Below w.heap.size w w'
set_option maxRecDepth 100000 in
set_option maxHeartbeats 4000000 in
theorem cstep_any (A B : Option Addr) (c d : Nat) (O : List Int) (W : List (List Int)) (J : List (List (List Int))) (x : List Int) (w : World) (hpre : Num.preB O W J = true) (hR : RulesRd w A (Num.rels O W J)) (hx : RdI w B x) (hl : x.length ≤ 400) (hd : x.length ≤ d) (hp : Num.PosW O.length x) :
    Calls Try.prog 68 #[.slice A (Num.rels O W J).length c, .slice B x.length d] w (CStep O W J x w (.slice B x.length d)) := by
  have V := Num.V9.of hpre
  obtain ⟨p1, p2⟩ := Num.preB_shape hpre
  have hlr := Num.rels_len p2 V.n6
  have HOK := Lib.hid (Num.rels_R9 hpre)
  have HN : Hid (∀ t, t < x.length → (∀ j, j < (Num.rels O W J).length → ∀ q, (Num.rels O W J)[j]? = some q → Num.isAt (Num.ruL q) x t = false) → Num.redB O x t = false) := Lib.hid fun t ht h => by
    cases hr : Num.redB O x t with
    | false => rfl
    | true =>
      obtain ⟨q, hq, ha⟩ := Num.rule_ex V hp ht hr
      obtain ⟨j, hj, rfl⟩ := List.getElem_of_mem hq
      have := h j hj _ (List.getElem?_eq_getElem hj)
      rw [this] at ha
      cases ha
  have HS : Hid (∀ t (q : Num.Rel) (j : Nat), (Num.rels O W J)[j]? = some q → Num.isAt (Num.ruL q) x t = true → t < x.length → (∀ i, i < t → Num.redB O x i = false) → Num.atW O x = t ∧ Num.ruS q x t = Num.stpW O W J x t ∧ t + (Num.ruL q).length ≤ x.length) := Lib.hid fun t q j hq ha ht h => by
    have hm : q ∈ Num.rels O W J := List.mem_of_getElem? hq
    obtain ⟨h1, h2⟩ := Num.rule_at V hp hm ha
    exact ⟨Num.fstT_eq ht h h1, h2, (Num.isAt_iff.mp ha).1⟩
  have HE : Hid ((∀ i, i < x.length → Num.redB O x i = false) → Num.atW O x = x.length) := Lib.hid fun h => Num.fstT_no h
  have HQ : Hid (∀ (j : Nat) (q : Num.Rel), (Num.rels O W J)[j]? = some q → Num.R9 q) := Lib.hid fun j q hq => HOK.out _ (List.mem_of_getElem? hq)
  have HRR := Lib.hid hR
  have HX := Lib.hid hx
  clear HOK p1 p2 V hpre hR hx hp
  generalize Num.rels O W J = qs at *
  go_enter Try.func68, Try.ntmps68
  go_wp2_with (fail)
  go_step3
  go_wp2_with (fail)
  go_step3
  go_wp2_with (fail)
  go_loopw [1, 6, 12] (fun s1 s6 s12 wr => ∃ t : Nat, s1 = .slice B x.length d ∧ s6 = .int .i64 (-1) ∧ s12 = .int .i64 t ∧ t ≤ x.length ∧ Hid (∀ i, i < t → Num.redB O x i = false) ∧ Below w.heap.size w wr) (fun _ _ s12 _ => x.length - (intOf s12).toNat)
  case atStart => exact ⟨0, rfl, rfl, rfl, by omega, Lib.hid (fun i hi => by omega), Below.refl _ _⟩
  case round =>
    obtain ⟨t, rfl, rfl, rfl, ht, hf, bel⟩ := hrel
    by_cases hlt : t < x.length
    · have i1 : (t : Int) < (x.length : Int) := by omega
      generalize hWO : wr = WO at *
      clear hWO
      go_wp2_with (fail)
      go_loopw [1, 6, 17] (fun s1 s6 s17 wr => ∃ j : Nat, s1 = .slice B x.length d ∧ s6 = .int .i64 (-1) ∧ s17 = .int .i64 j ∧ j ≤ qs.length ∧ Hid (∀ i, i < j → ∀ q, qs[i]? = some q → Num.isAt (Num.ruL q) x t = false) ∧ Below w.heap.size w wr) (fun _ _ s17 _ => qs.length - (intOf s17).toNat)
      case atStart => exact ⟨0, rfl, rfl, rfl, by omega, Lib.hid (fun i hi => by omega), bel⟩
      case round =>
        clear bel
        obtain ⟨j, rfl, rfl, rfl, hj, hjf, bel⟩ := hrel
        by_cases hjl : j < qs.length
        · have j0 : (0 : Int) ≤ (j : Int) := by omega
          have j1 : (j : Int) < (qs.length : Int) := by omega
          obtain ⟨q, hq⟩ : ∃ q, qs[j]? = some q := ⟨_, List.getElem?_eq_getElem hjl⟩
          obtain ⟨g, o, rfl, hg, AV, nV, cV, AL, cL, AR, cR, y0, y1, y2, y3, y4, y5, rl, rr⟩ := (HRR.out.below bel) j q hq
          have h9 := HQ.out j q hq
          have l1 := Num.ruL_len h9
          have l2 := Num.ruR_len h9
          have BA : Below wr.heap.size wr (wr.alloc (.cells #[.slice AV nV cV, .int .i64 q.g, .int .i64 q.b, .int .i64 q.o, .slice AL (Num.ruL q).length cL, .slice AR (Num.ruR q).length cR] 91)) := by go_grown
          have BN := Blk.new wr [.slice AV nV cV, .int .i64 q.g, .int .i64 q.b, .int .i64 q.o, .slice AL (Num.ruL q).length cL, .slice AR (Num.ruR q).length cR] 91
          have LA := bstep bel bel.size BA
          have HIS := Lib.hid (isAt_any (.slice AV nV cV) q.g q.b q.o AL AR B (Num.ruR q).length cL cR d t (Num.ruL q) x _ rfl (rl.below' BA) (HX.out.below' LA) (by omega) hd (by omega) (by omega))
          have HST : Hid (∀ W', Below (wr.alloc (.cells #[.slice AV nV cV, .int .i64 q.g, .int .i64 q.b, .int .i64 q.o, .slice AL (Num.ruL q).length cL, .slice AR (Num.ruR q).length cR] 91)).heap.size (wr.alloc (.cells #[.slice AV nV cV, .int .i64 q.g, .int .i64 q.b, .int .i64 q.o, .slice AL (Num.ruL q).length cL, .slice AR (Num.ruR q).length cR] 91)) W' → t + (Num.ruL q).length ≤ x.length →
              Calls Try.prog 116 #[.agg #[.slice AV nV cV, .int .i64 q.g, .int .i64 q.b, .int .i64 q.o, .slice AL (Num.ruL q).length cL, .slice AR (Num.ruR q).length cR], .slice B x.length d, .int .i64 (t : Int)] W' fun e w' => ∃ u, e = .returned u ∧ OwnI w' W'.heap.size u (Num.ruS q x t) ∧ Below W'.heap.size W' w') := Lib.hid fun W' hb hle =>
            stepAt_any (.slice AV nV cV) q.g q.b q.o AL AR B cL cR d t (Num.ruL q) (Num.ruR q) x W' rfl ((rl.below' BA).below' hb) ((rr.below' BA).below' hb) ((HX.out.below' LA).below' hb) (by omega) hd (by omega) (by omega) hle
          clear rl rr
          have HSS := Lib.hid (HS.out t q j hq)
          generalize hWA : wr.alloc (.cells #[.slice AV nV cV, .int .i64 q.g, .int .i64 q.b, .int .i64 q.o, .slice AL (Num.ruL q).length cL, .slice AR (Num.ruR q).length cR] 91) = WA at *
          obtain ⟨bl, z0, z1, z2, z3, z4, z5⟩ := BN.c6
          cases ha : Num.isAt (Num.ruL q) x t with
          | true =>
            rw [ha] at HIS
            obtain ⟨e1, e2, e3⟩ := HSS.out ha hlt hf.out
            have HST2 := Lib.hid (fun W' hb => HST.out W' hb e3)
            clear HST HSS HS HN HE hjf hf ha e3
            go_wp2_with (fail)
            refine HIS.out.mono ?_; rintro e w4 ⟨rfl, hb4⟩
            have L4 := bstep LA LA.size hb4
            have HST3 := Lib.hid (HST2.out w4 hb4)
            obtain ⟨bl4, v0, v1, v2, v3, v4, v5⟩ := (BN.below hb4).c6
            clear y0 y1 y2 y3 y4 y5 z0 z1 z2 z3 z4 z5 HST2
            go_wp2_with (fail)
            refine HST3.out.mono ?_; rintro e w5 ⟨u5, rfl, ow5, hb5⟩
            have HO5 : Hid (OwnI w5 w.heap.size u5 (Num.stpW O W J x t)) := Lib.hid (by rw [← e2]; exact ow5.base_ L4.size)
            have L5 := bstep L4 L4.size hb5
            have HF : Hid (Num.atW O x = t) := Lib.hid e1
            clear e1 e2 ow5 HST3
            go_wp2_with (fail)
            rw [Exit.noGoto_ret]
            go_ret2
            exact ⟨_, by rw [Num.stI_yes (by rw [HF.out]; exact hlt), HF.out]; rfl, fun _ => by rw [HF.out]; exact HO5.out, fun h => absurd (show Num.atW O x < x.length by rw [HF.out]; exact hlt) h, L5⟩
          | false =>
            rw [ha] at HIS
            have HJ2 : Hid (∀ i, i < j + 1 → ∀ q, qs[i]? = some q → Num.isAt (Num.ruL q) x t = false) := Lib.hid fun i hi q' hq' => by
              rcases Nat.lt_succ_iff_lt_or_eq.mp hi with h1 | rfl
              · exact hjf.out i h1 q' hq'
              · rw [hq] at hq'
                cases hq'
                exact ha
            clear HST HSS hjf ha
            go_wp2_with (fail)
            refine HIS.out.mono ?_; rintro e w4 ⟨rfl, hb4⟩
            have L4 := bstep LA LA.size hb4
            go_wp2_with (fail)
            exact ⟨⟨j + 1, rfl, rfl, by go_num, by omega, HJ2, L4⟩, by simp [intOf]; omega⟩
        · have hge : ¬ ((j : Int) < (qs.length : Int)) := by omega
          obtain rfl : j = qs.length := by omega
          have HF : Hid (∀ i, i < t + 1 → Num.redB O x i = false) := Lib.hid fun i hi => by
            rcases Nat.lt_succ_iff_lt_or_eq.mp hi with h1 | rfl
            · exact hf.out i h1
            · exact HN.out i hlt hjf.out
          go_wp2_with (fail)
          exact ⟨⟨t + 1, rfl, rfl, by go_num, by omega, HF, bel⟩, by simp [intOf]; omega⟩
    · have hge : ¬ ((t : Int) < (x.length : Int)) := by omega
      obtain rfl : t = x.length := by omega
      have HF : Hid (¬ Num.atW O x < x.length) := Lib.hid (by have := HE.out hf.out; omega)
      clear HS HE HN
      go_wp2_with (fail)
      go_ret2
      exact ⟨_, by rw [Num.stI_no HF.out]; rfl, fun h => absurd h HF.out, fun _ => rfl, bel⟩
end Go.Proofs.Ytahmhdpgdhfjnaa
