/- Consistency of the program: faultAt. -/
import Derived.Test.YteappjgdcbploaaL12J
import Derived.Deep.DeepCutAuto
namespace Go.Proofs.Yteappjgdcbploaa
open Go.RowKit
set_option linter.unusedVariables false
set_option linter.unusedSimpArgs false

/-- A list of relations as it is read. -/
def RelsRd (w : World) (v : Value) (ps : List RelV) : Prop := ∃ A c, v = .slice A ps.length c ∧ ∀ (j : Nat) (p : RelV), ps[j]? = some p → ∃ g, A = some ⟨g, 0, none⟩ ∧ g < w.heap.size ∧ RelRd w p ∧
  w.cell? ⟨g, j * 4, none⟩ = some p.1 ∧ w.cell? ⟨g, j * 4 + 1, none⟩ = some (.int .i64 p.2.g) ∧ w.cell? ⟨g, j * 4 + 2, none⟩ = some (.int .i64 p.2.b) ∧ w.cell? ⟨g, j * 4 + 3, none⟩ = some (.int .i64 p.2.o)
theorem RelsRd.below {w w' : World} {v : Value} {ps : List RelV} (h : RelsRd w v ps) (hb : Below w.heap.size w w') : RelsRd w' v ps := by
  obtain ⟨A, c, e, h⟩ := h
  refine ⟨A, c, e, fun j p hp => ?_⟩
  obtain ⟨g, h1, h2, h3, h4, h5, h6, h7⟩ := h j p hp
  exact ⟨g, h1, Nat.lt_of_lt_of_le h2 hb.size, h3.below' hb, by rw [hb.cell h2]; exact h4, by rw [hb.cell h2]; exact h5, by rw [hb.cell h2]; exact h6, by rw [hb.cell h2]; exact h7⟩
theorem RelsRd.chgMap {w w' : World} {b : Nat} {es : Array MapEntry} {ck : Nat} (hm : w.heap[b]? = some (.map es ck)) (hc : ChgS (fun k => k = b) w w') {v : Value} {ps : List RelV} (h : RelsRd w v ps) : RelsRd w' v ps := by
  obtain ⟨A, c, e, h⟩ := h
  refine ⟨A, c, e, fun j p hp => ?_⟩
  obtain ⟨g, h1, h2, ⟨B, d, e3, h3, h3'⟩, h4, h5, h6, h7⟩ := h j p hp
  exact ⟨g, h1, Nat.lt_of_lt_of_le h2 hc.size, ⟨B, d, e3, RdI.chgMap hm hc h3, h3'⟩, (cell_map hm hc h4).1, (cell_map hm hc h5).1, (cell_map hm hc h6).1, (cell_map hm hc h7).1⟩
theorem RelsRd.of {w : World} {base : Nat} {v : Value} {ps : List RelV} (h : OwnR w base v ps) (hr : ∀ p ∈ ps, RelRd w p) : RelsRd w v ps := by
  obtain ⟨A, c, rfl, -⟩ := h.form
  refine ⟨A, c, rfl, fun j p hp => ?_⟩
  have hj : j < ps.length := by
    by_cases hj : j < ps.length
    · exact hj
    · rw [List.getElem?_eq_none (by omega)] at hp; cases hp
  rw [List.getElem?_eq_getElem hj] at hp
  cases hp
  obtain ⟨g, e, h1, h2, h3, h4, h5, h6⟩ := h.at_ hj
  exact ⟨g, e, h2, hr _ (List.getElem_mem hj), h3, h4, h5, h6⟩
theorem MSt.other {O : List Int} {W : List (List Int)} {J : List (List (List Int))} {i bo bm b : Nat} {w w' : World} (h : MSt O W J i bo bm w) (hc : ChgS (fun k => k = b) w w') (h1 : bo ≠ b) (h2 : bm ≠ b) : MSt O W J i bo bm w' := by
  obtain ⟨⟨Do, a1, a2, a3⟩, ⟨D, a4, a5⟩, a6⟩ := h
  exact ⟨⟨Do, a1, own_keep a2 (hc.block bo a2.lt h1), a3⟩, ⟨D, own_keep a4 (hc.block bm a4.lt h2), a5⟩, a6⟩
/-- A change in a block that is new changes nothing of what was there. -/
theorem chg_out {S : Nat → Prop} {w w1 w2 : World} (h : ChgS S w w1) (k : ChgS (fun k => k = w.heap.size) w1 w2) : ChgS S w w2 :=
  ⟨k.os.trans h.os, k.tape.trans h.tape, k.output.trans h.output, Nat.le_trans h.size k.size, fun j hj hn => by rw [k.block j (by have := h.size; omega) (by omega), h.block j hj hn]⟩
set_option maxRecDepth 100000 in
set_option maxHeartbeats 8000000 in
theorem faultAt_any {O : List Int} {W : List (List Int)} {J : List (List (List Int))} (V : Num.Val O W J) (i : Nat) (hi : i < O.length) (C : Num.Con (Num.tlL O W J (i + 1))) (t : Tw) (bm : Nat) (w : World) (ps : List RelV) (hps : ps.map (·.2) = Num.rels O W J) (hlen : ps.length ≤ 100)
    (HT : ∀ w', ChgS (fun k => k = bm) w w' → TwR O W J t (i + 1) w') (HR : ∀ w', ChgS (fun k => k = bm) w w' → RelsRd w' t.vR ps) (hs : MSt O W J i t.bo bm w) :
    Calls Try.prog 157 #[.pointer (some ⟨t.tb, 0, none⟩), .int .i64 (i : Int)] w fun e w' => e = .returned (fltV (Num.fltA O W J i)) ∧ ChgS (fun k => k = bm) w w' ∧ MSt O W J i t.bo bm w' := by
  have n6 := V.n6
  have HV := Lib.hid V
  have HC := Lib.hid C
  have HTT := Lib.hid HT
  have HRR := Lib.hid HR
  have HPS := Lib.hid hps
  obtain ⟨W0, hW0⟩ : ∃ X, w.alloc (.cells #[.int .i64 0, .int .i64 0, .int .i64 0, .int .i64 0] 132) = X := ⟨_, rfl⟩
  have b0 : Below w.heap.size w W0 := by rw [← hW0]; go_grown
  have BF : Blk W0 w.heap.size [.int .i64 0, .int .i64 0, .int .i64 0, .int .i64 0] 132 := by rw [← hW0]; exact Blk.new w [.int .i64 0, .int .i64 0, .int .i64 0, .int .i64 0] 132
  have hbm := hs.lt.2
  have hbo := hs.lt.1
  have HBF : Hid (∀ w', ChgS (fun k => k = bm) W0 w' → Blk w' w.heap.size [.int .i64 0, .int .i64 0, .int .i64 0, .int .i64 0] 132) := Lib.hid fun w' h => BF.chg h (by omega)
  have s0 := hs.below b0
  have c0 : ChgS (fun k => k = bm) w W0 := ChgS.of_below b0
  have T0 := HT W0 c0
  obtain ⟨tl, t0, t1, t2, t3, t4, t5, t6, t7⟩ := T0.box.c8
  obtain ⟨AR, cR, hvR, hRel0⟩ := HR W0 c0
  rw [hvR] at t3
  have HREL : Hid (∀ w', ChgS (fun k => k = bm) W0 w' → ∀ (j : Nat) (p : RelV), ps[j]? = some p → ∃ g, AR = some ⟨g, 0, none⟩ ∧ g < w'.heap.size ∧ RelRd w' p ∧ w'.cell? ⟨g, j * 4, none⟩ = some p.1 ∧ w'.cell? ⟨g, j * 4 + 1, none⟩ = some (.int .i64 p.2.g) ∧ w'.cell? ⟨g, j * 4 + 2, none⟩ = some (.int .i64 p.2.b) ∧ w'.cell? ⟨g, j * 4 + 3, none⟩ = some (.int .i64 p.2.o)) := Lib.hid fun w' h j p hp => by
    obtain ⟨A', c', e', h'⟩ := HR w' (c0.trans h)
    rw [hvR] at e'
    simp only [Value.slice.injEq] at e'
    obtain ⟨rfl, -, -⟩ := e'
    exact h' j p hp
  have HRL : Hid ((Num.rels O W J).length = ps.length) := Lib.hid (by rw [← hps, List.length_map])
  have HRA : Hid (∀ (j : Nat) (p : RelV), ps[j]? = some p → (Num.rels O W J)[j]? = some p.2) := Lib.hid fun j (p : RelV) hp => by rw [← hps, List.getElem?_map, hp]; rfl
  have i0 : (0 : Int) ≤ (i : Int) := by omega
  have i1 : (i : Int) < (O.length : Int) := by omega
  have hiw : IntKind.i64.wrap ((i : Int) + 1) = (i : Int) + 1 := IntWalk.i64_in _ (by omega)
  have HS0 := Lib.hid s0
  have HHC := Lib.hid c0
  have bF0 := BF.c4
  clear T0 V C HT HR hps s0 hRel0 BF
  go_enter Try.func157, Try.ntmps157
  go_wp2_with (fail)
  clear hW0 t0 t1 t2 t3 t4 t5 t6 t7 bF0
  go_loopw [6, 14] (fun _ s14 wr => ∃ x : Nat, s14 = .int .i64 (x : Int) ∧ x ≤ ps.length ∧ Hid (∀ y, y < x → ∀ r, (Num.rels O W J)[y]? = some r → (i : Int) < r.b → Num.relOk O W J i r = true) ∧ ChgS (fun k => k = bm) W0 wr ∧ Hid (MSt O W J i t.bo bm wr)) (fun _ s14 _ => ps.length - (intOf s14).toNat)
  case atStart => exact ⟨0, rfl, by omega, Lib.hid fun y hy => by omega, ChgS.refl _ _, HS0⟩
  case round =>
    obtain ⟨x, rfl, hx, hq, hch, hst⟩ := hrel
    by_cases hlt : x < ps.length
    · obtain ⟨p, hp⟩ : ∃ p, ps[x]? = some p := ⟨_, List.getElem?_eq_getElem hlt⟩
      obtain ⟨g, rfl, hg, hrd, c40, c41, c42, c43⟩ := HREL.out _ hch x p hp
      have hra := HRA.out x p hp
      have hra2 := Num.rels_at HV.out (i := i) (by rw [HRL.out]; exact hlt) hq.out
      have x0 : (0 : Int) ≤ (x : Int) := by omega
      have x1 : (x : Int) < (ps.length : Int) := by omega
      have hwx : IntKind.i64.wrap ((x : Int) + 1) = ((x + 1 : Nat) : Int) := by rw [IntWalk.i64_in _ (by omega)]; omega
      obtain ⟨v, q⟩ := p
      simp only at c40 c41 c42 c43 hra
      have hrd0 := hrd
      obtain ⟨A, cc, e, -, -⟩ := hrd
      simp only at e
      subst e
      obtain ⟨qx, qg, qb, qo⟩ := q
      simp only at c40 c41 c42 c43
      have hbl0 : Below wr.heap.size wr (wr.alloc (.cells #[.slice A qx.length cc, .int .i64 qg, .int .i64 qb, .int .i64 qo] 102)) := by go_grown
      obtain ⟨W1, hW1⟩ : ∃ X, wr.alloc (.cells #[.slice A qx.length cc, .int .i64 qg, .int .i64 qb, .int .i64 qo] 102) = X := ⟨_, rfl⟩
      rw [hW1] at hbl0
      have BQ : Blk W1 wr.heap.size [.slice A qx.length cc, .int .i64 qg, .int .i64 qb, .int .i64 qo] 102 := by rw [← hW1]; exact Blk.new wr [.slice A qx.length cc, .int .i64 qg, .int .i64 qb, .int .i64 qo] 102
      have hc1 := hch.trans (ChgS.of_below hbl0)
      have hs1 := hst.out.below hbl0
      have hrd1 := hrd0.below' hbl0
      obtain ⟨bq, q0, q1, q2, q3⟩ := BQ.c4
      have hbmr := hst.out.lt.2
      have HBQ : Hid (∀ w', ChgS (fun k => k = bm) W1 w' → Blk w' wr.heap.size [.slice A qx.length cc, .int .i64 qg, .int .i64 qb, .int .i64 qo] 102) := Lib.hid fun w' h => BQ.chg h (by omega)
      have HRD1 := Lib.hid hrd1
      clear hrd0 hrd1
      by_cases hbi : (i : Int) < qb
      · -- the relation is asked at this level
        have HIM : Hid (Calls Try.prog 164 #[.pointer (some ⟨t.tb, 0, none⟩), .int .i64 (i : Int), .agg #[.slice A qx.length cc, .int .i64 qg, .int .i64 qb, .int .i64 qo]] W1 fun e w' => e = .returned (.bool (Num.relOk O W J i ⟨qx, qg, qb, qo⟩)) ∧ ChgS (fun k => k = bm) W1 w' ∧ MSt O W J i t.bo bm w') := Lib.hid (by
          rcases hra2 with ⟨j, h1, h2, h3⟩ | ⟨j, k, h1, h2, h3, h4, h5, h6⟩
          · rw [hra] at h2
            obtain ⟨rfl, rfl, rfl, rfl⟩ : qx = W.getD j [] ∧ qg = (j : Int) ∧ qb = (j : Int) ∧ qo = O.getD j 0 := by simpa using h2
            rw [Num.relOk_P]
            exact isMapped_P HV.out i hi HC.out t bm w HTT.out j (by omega) h1 (.slice A (W.getD j []).length cc) W1 HRD1.out (HHC.out.trans hc1) hs1
          · rw [hra] at h3
            obtain ⟨rfl, rfl, rfl, rfl⟩ : qx = (J.getD j []).getD (k - (j + 1)) [] ∧ qg = (k : Int) ∧ qb = (j : Int) ∧ qo = O.getD j 0 := by simpa [Num.relC] using h3
            have := Num.relOk_C (O := O) (W := W) (J := J) i j k h1
            unfold Num.relC at this
            rw [this]
            exact isMapped_C HV.out i hi HC.out t bm w HTT.out j (by omega) (by omega) k h1 h2 (O.getD j 0) (.slice A ((J.getD j []).getD (k - (j + 1)) []).length cc) W1 HRD1.out (HHC.out.trans hc1) hs1)
        have hdb : decide ((i : Int) < qb) = true := by simpa using hbi
        cases hok : Num.relOk O W J i ⟨qx, qg, qb, qo⟩ with
        | true =>
          rw [hok] at HIM
          have HQ : Hid (∀ y, y < x + 1 → ∀ r, (Num.rels O W J)[y]? = some r → (i : Int) < r.b → Num.relOk O W J i r = true) := Lib.hid fun y hy r hr hb => by
            by_cases e : y = x
            · subst e
              rw [hra] at hr
              cases hr
              exact hok
            · exact hq.out y (by omega) r hr hb
          clear hok hq hra hra2 hs1 hst
          go_wp2_with (fail)
          refine HIM.out.mono ?_; rintro e w2 ⟨rfl, hc2, hs2⟩
          have HS2 := Lib.hid hs2
          have hcf := hc1.trans hc2
          clear HIM hs2 hc2
          go_wp2_with (fail)
          exact ⟨⟨x + 1, rfl, by omega, HQ, hcf, HS2⟩, by simp [intOf]; omega⟩
        | false =>
          rw [hok] at HIM
          have HE : Hid (Num.fltA O W J i = if qg = qb then ⟨1, i, qb, 0⟩ else ⟨2, i, qb, qg⟩) := Lib.hid (by
            rcases hra2 with ⟨j, h1, h2, h3⟩ | ⟨j, k, h1, h2, h3, h4, h5, h6⟩
            · rw [hra] at h2
              obtain ⟨rfl, rfl, rfl, rfl⟩ : qx = W.getD j [] ∧ qg = (j : Int) ∧ qb = (j : Int) ∧ qo = O.getD j 0 := by simpa using h2
              rw [Num.relOk_P] at hok
              rw [if_pos rfl]
              exact Num.fltA_P (by omega) h1 hok h3
            · rw [hra] at h3
              obtain ⟨rfl, rfl, rfl, rfl⟩ : qx = (J.getD j []).getD (k - (j + 1)) [] ∧ qg = (k : Int) ∧ qb = (j : Int) ∧ qo = O.getD j 0 := by simpa [Num.relC] using h3
              have h7 := Num.relOk_C (O := O) (W := W) (J := J) i j k h1
              unfold Num.relC at h7
              rw [h7] at hok
              rw [if_neg (by omega)]
              exact Num.fltA_C h4 (by omega) h1 h2 hok (h5 (by omega)) h6)
          have HRF : Hid (∀ w', ChgS (fun k => k = bm) W1 w' → RdI w' A qx → Calls Try.prog 165 #[.agg #[.slice A qx.length cc, .int .i64 qg, .int .i64 qb, .int .i64 qo], .int .i64 (i : Int)] w' fun e w'' => e = .returned (fltV (if qg = qb then ⟨1, i, qb, 0⟩ else ⟨2, i, qb, qg⟩)) ∧ Below w'.heap.size w' w'') := Lib.hid fun w' h hr => by
            obtain ⟨A', c', e', -, hlm⟩ := HRD1.out
            exact relFault_any (.slice A qx.length cc, ⟨qx, qg, qb, qo⟩) i w' ⟨A, cc, rfl, hr, hlm⟩
          have HRA1 : Hid (RdI W1 A qx) := Lib.hid (by
            obtain ⟨A', c', e', hr, hlm⟩ := HRD1.out
            simp only [Value.slice.injEq] at e'
            obtain ⟨rfl, -, -⟩ := e'
            exact hr)
          have hmm : ∃ es ck, W1.heap[bm]? = some (.map es ck) := by
            obtain ⟨_, ⟨D, ⟨es, ck, h1, _⟩, _⟩, _⟩ := hs1
            exact ⟨es, ck, h1⟩
          clear hok hq hra hra2 hst
          unfold fltV at HRF
          generalize hF : (if qg = qb then (⟨1, i, qb, 0⟩ : Num.Flt) else ⟨2, i, qb, qg⟩) = F at *
          obtain ⟨fk, fl, ff, fs⟩ := F
          go_wp2_with (fail)
          refine HIM.out.mono ?_; rintro e w2 ⟨rfl, hc2, hs2⟩
          obtain ⟨es, ck, hmm⟩ := hmm
          have HR2 := Lib.hid (HRF.out w2 hc2 (RdI.chgMap hmm hc2 HRA1.out))
          obtain ⟨bq2, q0, q1, q2, q3⟩ := (HBQ.out _ hc2).c4
          have HS2 := Lib.hid hs2
          have hcf := hc1.trans hc2
          clear HIM hs2 hc2 HRF HRA1 hmm hs1 hF
          go_wp2_with (fail)
          refine HR2.out.mono ?_; rintro e w3 ⟨rfl, hb3⟩
          have hs3 := HS2.out.below hb3
          have hcg := hcf.trans (ChgS.of_below hb3)
          clear HR2 HS2 hb3 hcf q0 q1 q2 q3
          have hBF := HBF.out _ hcg
          have hcs : ChgS (fun k => k = w.heap.size) w3 ((((w3.setCell ⟨w.heap.size, 0, none⟩ (.int .i64 fk)).setCell ⟨w.heap.size, 1, none⟩ (.int .i64 fl)).setCell ⟨w.heap.size, 2, none⟩ (.int .i64 ff)).setCell ⟨w.heap.size, 3, none⟩ (.int .i64 fs)) := (((ChgS.set _ ⟨w.heap.size, 0, none⟩ _).trans (ChgS.set _ ⟨w.heap.size, 1, none⟩ _)).trans (ChgS.set _ ⟨w.heap.size, 2, none⟩ _)).trans (ChgS.set _ ⟨w.heap.size, 3, none⟩ _)
          have hB9 : Blk ((((w3.setCell ⟨w.heap.size, 0, none⟩ (.int .i64 fk)).setCell ⟨w.heap.size, 1, none⟩ (.int .i64 fl)).setCell ⟨w.heap.size, 2, none⟩ (.int .i64 ff)).setCell ⟨w.heap.size, 3, none⟩ (.int .i64 fs)) w.heap.size [.int .i64 fk, .int .i64 fl, .int .i64 ff, .int .i64 fs] 132 := (((hBF.set 0 _).set 1 _).set 2 _).set 3 _
          have hs9 := MSt.other hs3 hcs (by omega) (by omega)
          have hf9 := chg_out (HHC.out.trans hcg) hcs
          obtain ⟨bl9, f0, f1, f2, f3⟩ := hBF.c4
          have g0 := hBF.free 0
          have g1 := hBF.free 1
          have g2 := hBF.free 2
          have g3 := hBF.free 3
          generalize hw9 : ((((w3.setCell ⟨w.heap.size, 0, none⟩ (.int .i64 fk)).setCell ⟨w.heap.size, 1, none⟩ (.int .i64 fl)).setCell ⟨w.heap.size, 2, none⟩ (.int .i64 ff)).setCell ⟨w.heap.size, 3, none⟩ (.int .i64 fs)) = w9 at *
          obtain ⟨bl9', r0, r1, r2, r3⟩ := hB9.c4
          have HS9 := Lib.hid hs9
          have HB9 := Lib.hid hB9
          clear hs9 hcs hBF hB9
          go_wp2_with (fail)
          refine bodyPost_ret (v := .agg #[.int .i64 fk, .int .i64 fl, .int .i64 ff, .int .i64 fs]) (by simp [results, Try.results157, go_sem, bl9', r0, r1, r2, r3]) rfl ?_
          exact ⟨by rw [HE.out]; rfl, hf9, HS9.out⟩
      · have hdb : decide ((i : Int) < qb) = false := by simpa using hbi
        have HQ : Hid (∀ y, y < x + 1 → ∀ r, (Num.rels O W J)[y]? = some r → (i : Int) < r.b → Num.relOk O W J i r = true) := Lib.hid fun y hy r hr hb => by
          by_cases e : y = x
          · subst e
            rw [hra] at hr
            cases hr
            exact absurd hb hbi
          · exact hq.out y (by omega) r hr hb
        have HS1 := Lib.hid hs1
        clear hq hra hra2 hs1 hst
        go_wp2_with (fail)
        exact ⟨⟨x + 1, rfl, by omega, HQ, hc1, HS1⟩, by simp [intOf]; omega⟩
    · obtain rfl : x = ps.length := by omega
      have hge : ¬ ((ps.length : Int) < (ps.length : Int)) := by omega
      obtain ⟨hQP, hQC⟩ := Num.rels_end HV.out (i := i) (by rw [HRL.out]; exact hq.out)
      have HQP := Lib.hid hQP
      have HQC := Lib.hid hQC
      have hcw := HHC.out.trans hch
      have TR := HTT.out wr hcw
      obtain ⟨tl, t0, t1, t2, t3, t4, t5, t6, t7⟩ := TR.box.c8
      obtain ⟨gW, oW, BW, dW, hAW, gWl, cW, rW⟩ := cellV (j := i) TR.pres.2.1 (by rw [HV.out.lw]; exact hi)
      rw [HV.out.wl i hi] at cW
      rw [hAW] at t1
      have hOi := HV.out.ok i
      rw [Num.tlL_step hi] at hOi
      have wE := HV.out.we i (i + 1) hi
      have e0 := Num.num_pad (W := W) (J := J) (HV.out.wl i hi) (i + 1) (by omega) (fun z hz => HV.out.wz i z hi (by omega))
      have HNU := Lib.hid (number_any HV.out TR (W.getD i []) BW dW rW (HV.out.wl i hi) (by simpa using HV.out.we i 0 hi))
      rw [e0] at HNU
      have HIV := Lib.hid (imageVec_any HV.out i hi HC.out t bm w HTT.out _ wE wr hcw hst.out)
      have HBF2 : Hid ((Num.numL (Num.tlL O W J (i + 1)) (Num.imgL (Num.lvA O W J i) (Num.tlL O W J (i + 1)) ((W.getD i []).drop (i + 1))) == Num.numL (Num.tlL O W J (i + 1)) ((W.getD i []).drop (i + 1))) = Num.bF O W J i) := Lib.hid (by rw [Num.bF_at, num_eq HV.out (Num.El.img hOi _) wE])
      have HINN : Hid (∀ j w', i < j → j < O.length → ChgS (fun k => k = bm) w w' → MSt O W J i t.bo bm w' → Calls Try.prog 167 #[.pointer (some ⟨t.tb, 0, none⟩), .int .i64 (i : Int), .int .i64 (Num.numL (Num.tlL O W J (i + 1)) ((W.getD i []).drop (i + 1))), .int .i64 (Num.szL (Num.tlL O W J (j + 1)))] w' fun e w'' => e = .returned (.bool (Num.bI O W J i j)) ∧ ChgS (fun k => k = bm) w' w'' ∧ MSt O W J i t.bo bm w'') := Lib.hid fun j w' h1 h2 h3 h4 => isInner_any HV.out i hi HC.out t bm w HTT.out j h1 h2 w' h3 h4
      generalize Num.numL (Num.tlL O W J (i + 1)) (Num.imgL (Num.lvA O W J i) (Num.tlL O W J (i + 1)) ((W.getD i []).drop (i + 1))) = ni at *
      generalize Num.numL (Num.tlL O W J (i + 1)) ((W.getD i []).drop (i + 1)) = nw at *
      clear hq hQP hQC hOi wE e0 rW gWl TR
      have iW : (i : Int) < (O.length : Int) := i1
      go_wp2_with (fail)
      refine HNU.out.mono ?_; rintro e w2 ⟨rfl, rfl⟩
      go_wp2_with (fail)
      refine HIV.out.mono ?_; rintro e w2 ⟨rfl, hc2, hs2⟩
      have hcg := hch.trans hc2
      clear HIV HNU t0 t1 t2 t3 t4 t5 t6 t7 cW hc2 hst
      cases hbf : Num.bF O W J i with
      | false =>
        have HE : Hid (Num.fltA O W J i = ⟨3, i, 0, 0⟩) := Lib.hid (Num.fltA_F HQP.out HQC.out hbf)
        have hbe : (ni != nw) = true := by have := HBF2.out; rw [hbf] at this; simpa [bne] using this
        clear hbf HBF2
        have hBF := HBF.out _ hcg
        have hcs : ChgS (fun k => k = w.heap.size) w2 ((((w2.setCell ⟨w.heap.size, 0, none⟩ (.int .i64 3)).setCell ⟨w.heap.size, 1, none⟩ (.int .i64 (i : Int))).setCell ⟨w.heap.size, 2, none⟩ (.int .i64 0)).setCell ⟨w.heap.size, 3, none⟩ (.int .i64 0)) := (((ChgS.set _ ⟨w.heap.size, 0, none⟩ _).trans (ChgS.set _ ⟨w.heap.size, 1, none⟩ _)).trans (ChgS.set _ ⟨w.heap.size, 2, none⟩ _)).trans (ChgS.set _ ⟨w.heap.size, 3, none⟩ _)
        have hB9 : Blk ((((w2.setCell ⟨w.heap.size, 0, none⟩ (.int .i64 3)).setCell ⟨w.heap.size, 1, none⟩ (.int .i64 (i : Int))).setCell ⟨w.heap.size, 2, none⟩ (.int .i64 0)).setCell ⟨w.heap.size, 3, none⟩ (.int .i64 0)) w.heap.size [.int .i64 3, .int .i64 (i : Int), .int .i64 0, .int .i64 0] 132 := (((hBF.set 0 _).set 1 _).set 2 _).set 3 _
        have hs9 := MSt.other hs2 hcs (by omega) (by omega)
        have hf9 := chg_out (HHC.out.trans hcg) hcs
        obtain ⟨bl9, f0, f1, f2, f3⟩ := hBF.c4
        have g0 := hBF.free 0
        have g1 := hBF.free 1
        have g2 := hBF.free 2
        have g3 := hBF.free 3
        generalize hw9 : ((((w2.setCell ⟨w.heap.size, 0, none⟩ (.int .i64 3)).setCell ⟨w.heap.size, 1, none⟩ (.int .i64 (i : Int))).setCell ⟨w.heap.size, 2, none⟩ (.int .i64 0)).setCell ⟨w.heap.size, 3, none⟩ (.int .i64 0)) = w9 at *
        obtain ⟨bl9', r0, r1, r2, r3⟩ := hB9.c4
        have HS9 := Lib.hid hs9
        have HB9 := Lib.hid hB9
        clear hs9 hcs hBF hB9
        go_wp2_with (fail)
        refine bodyPost_ret (v := .agg #[.int .i64 3, .int .i64 (i : Int), .int .i64 0, .int .i64 0]) (by simp [results, Try.results157, go_sem, bl9', r0, r1, r2, r3]) rfl ?_
        exact ⟨by rw [HE.out]; rfl, hf9, HS9.out⟩
      | true =>
        have HBF3 := Lib.hid hbf
        have hbe : (ni != nw) = false := by have := HBF2.out; rw [hbf] at this; simpa [bne] using this
        have HS2 := Lib.hid hs2
        clear hbf HBF2 hs2
        go_wp2_with (fail)
        go_loopw [8] (fun s8 wr => ∃ j : Nat, s8 = .int .i64 (j : Int) ∧ i + 1 ≤ j ∧ j ≤ O.length ∧ Hid (∀ k, i < k → k < j → Num.bI O W J i k = true) ∧ ChgS (fun k => k = bm) W0 wr ∧ Hid (MSt O W J i t.bo bm wr)) (fun s8 _ => O.length - (intOf s8).toNat)
        case atStart => exact ⟨i + 1, by go_num, by omega, by omega, Lib.hid fun k h1 h2 => by omega, hcg, HS2⟩
        case round =>
          clear hcg HS2
          obtain ⟨j, rfl, hj0, hj, hq, hch, hst⟩ := hrel
          have hcw := HHC.out.trans hch
          have TR := HTT.out wr hcw
          obtain ⟨tl, t0, t1, t2, t3, t4, t5, t6, t7⟩ := TR.box.c8
          by_cases hlt : j < O.length
          · have j1 : (j : Int) < (O.length : Int) := by omega
            have HG := Lib.hid (gen_any HV.out TR j hlt)
            have HIN := Lib.hid (HINN.out j wr (by omega) hlt hcw hst.out)
            have hwj : IntKind.i64.wrap ((j : Int) + 1) = ((j + 1 : Nat) : Int) := by rw [IntWalk.i64_in _ (by omega)]; omega
            cases hbi : Num.bI O W J i j with
            | true =>
              rw [hbi] at HIN
              have HQ : Hid (∀ k, i < k → k < j + 1 → Num.bI O W J i k = true) := Lib.hid fun k h1 h2 => by
                by_cases e : k = j
                · rw [e]; exact hbi
                · exact hq.out k h1 (by omega)
              clear hbi hq TR hst
              go_wp2_with (fail)
              refine HG.out.mono ?_; rintro e w3 ⟨rfl, rfl⟩
              go_wp2_with (fail)
              refine HIN.out.mono ?_; rintro e w3 ⟨rfl, hc3, hs3⟩
              have HS3 := Lib.hid hs3
              have hcf := hch.trans hc3
              clear HIN hs3 hc3 t0 t1 t2 t3 t4 t5 t6 t7
              go_wp2_with (fail)
              exact ⟨⟨j + 1, rfl, by omega, by omega, HQ, hcf, HS3⟩, by simp [intOf]; omega⟩
            | false =>
              rw [hbi] at HIN
              have HE : Hid (Num.fltA O W J i = ⟨4, i, j, 0⟩) := Lib.hid (Num.fltA_I HQP.out HQC.out HBF3.out (by omega) hlt hbi hq.out)
              clear hbi hq TR hst
              go_wp2_with (fail)
              refine HG.out.mono ?_; rintro e w3 ⟨rfl, rfl⟩
              go_wp2_with (fail)
              refine HIN.out.mono ?_; rintro e w3 ⟨rfl, hc3, hs3⟩
              have hcf := hch.trans hc3
              clear HIN hc3 t0 t1 t2 t3 t4 t5 t6 t7 HG
              have hBF := HBF.out _ hcf
              have hcs : ChgS (fun k => k = w.heap.size) w3 ((((w3.setCell ⟨w.heap.size, 0, none⟩ (.int .i64 4)).setCell ⟨w.heap.size, 1, none⟩ (.int .i64 (i : Int))).setCell ⟨w.heap.size, 2, none⟩ (.int .i64 (j : Int))).setCell ⟨w.heap.size, 3, none⟩ (.int .i64 0)) := (((ChgS.set _ ⟨w.heap.size, 0, none⟩ _).trans (ChgS.set _ ⟨w.heap.size, 1, none⟩ _)).trans (ChgS.set _ ⟨w.heap.size, 2, none⟩ _)).trans (ChgS.set _ ⟨w.heap.size, 3, none⟩ _)
              have hB9 : Blk ((((w3.setCell ⟨w.heap.size, 0, none⟩ (.int .i64 4)).setCell ⟨w.heap.size, 1, none⟩ (.int .i64 (i : Int))).setCell ⟨w.heap.size, 2, none⟩ (.int .i64 (j : Int))).setCell ⟨w.heap.size, 3, none⟩ (.int .i64 0)) w.heap.size [.int .i64 4, .int .i64 (i : Int), .int .i64 (j : Int), .int .i64 0] 132 := (((hBF.set 0 _).set 1 _).set 2 _).set 3 _
              have hs9 := MSt.other hs3 hcs (by omega) (by omega)
              have hf9 := chg_out (HHC.out.trans hcf) hcs
              obtain ⟨bl9, f0, f1, f2, f3⟩ := hBF.c4
              have g0 := hBF.free 0
              have g1 := hBF.free 1
              have g2 := hBF.free 2
              have g3 := hBF.free 3
              generalize hw9 : ((((w3.setCell ⟨w.heap.size, 0, none⟩ (.int .i64 4)).setCell ⟨w.heap.size, 1, none⟩ (.int .i64 (i : Int))).setCell ⟨w.heap.size, 2, none⟩ (.int .i64 (j : Int))).setCell ⟨w.heap.size, 3, none⟩ (.int .i64 0)) = w9 at *
              obtain ⟨bl9', r0, r1, r2, r3⟩ := hB9.c4
              have HS9 := Lib.hid hs9
              have HB9 := Lib.hid hB9
              clear hs9 hcs hBF hB9
              go_wp2_with (fail)
              refine bodyPost_ret (v := .agg #[.int .i64 4, .int .i64 (i : Int), .int .i64 (j : Int), .int .i64 0]) (by simp [results, Try.results157, go_sem, bl9', r0, r1, r2, r3]) rfl ?_
              exact ⟨by rw [HE.out]; rfl, hf9, HS9.out⟩
          · obtain rfl : j = O.length := by omega
            have HE : Hid (Num.fltA O W J i = ⟨0, 0, 0, 0⟩) := Lib.hid (Num.fltA_0 HQP.out HQC.out HBF3.out hq.out)
            have hge2 : ¬ ((O.length : Int) < (O.length : Int)) := by omega
            have hs3 := hst.out
            clear hq TR
            have hBF := HBF.out _ hch
            have hcs : ChgS (fun k => k = w.heap.size) wr ((((wr.setCell ⟨w.heap.size, 0, none⟩ (.int .i64 0)).setCell ⟨w.heap.size, 1, none⟩ (.int .i64 0)).setCell ⟨w.heap.size, 2, none⟩ (.int .i64 0)).setCell ⟨w.heap.size, 3, none⟩ (.int .i64 0)) := (((ChgS.set _ ⟨w.heap.size, 0, none⟩ _).trans (ChgS.set _ ⟨w.heap.size, 1, none⟩ _)).trans (ChgS.set _ ⟨w.heap.size, 2, none⟩ _)).trans (ChgS.set _ ⟨w.heap.size, 3, none⟩ _)
            have hB9 : Blk ((((wr.setCell ⟨w.heap.size, 0, none⟩ (.int .i64 0)).setCell ⟨w.heap.size, 1, none⟩ (.int .i64 0)).setCell ⟨w.heap.size, 2, none⟩ (.int .i64 0)).setCell ⟨w.heap.size, 3, none⟩ (.int .i64 0)) w.heap.size [.int .i64 0, .int .i64 0, .int .i64 0, .int .i64 0] 132 := (((hBF.set 0 _).set 1 _).set 2 _).set 3 _
            have hs9 := MSt.other hs3 hcs (by omega) (by omega)
            have hf9 := chg_out (HHC.out.trans hch) hcs
            obtain ⟨bl9, f0, f1, f2, f3⟩ := hBF.c4
            have g0 := hBF.free 0
            have g1 := hBF.free 1
            have g2 := hBF.free 2
            have g3 := hBF.free 3
            generalize hw9 : ((((wr.setCell ⟨w.heap.size, 0, none⟩ (.int .i64 0)).setCell ⟨w.heap.size, 1, none⟩ (.int .i64 0)).setCell ⟨w.heap.size, 2, none⟩ (.int .i64 0)).setCell ⟨w.heap.size, 3, none⟩ (.int .i64 0)) = w9 at *
            obtain ⟨bl9', r0, r1, r2, r3⟩ := hB9.c4
            have HS9 := Lib.hid hs9
            have HB9 := Lib.hid hB9
            clear hs9 hcs hBF hB9
            go_wp2_with (fail)
            refine bodyPost_ret (v := .agg #[.int .i64 0, .int .i64 0, .int .i64 0, .int .i64 0]) (by simp [results, Try.results157, go_sem, bl9', r0, r1, r2, r3]) rfl ?_
            exact ⟨by rw [HE.out]; rfl, hf9, HS9.out⟩

end Go.Proofs.Yteappjgdcbploaa
