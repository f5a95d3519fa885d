/- relationsOf, called in a later world than the one in which its argument lies. -/
import Derived.Test.YteappjgdcbploaaL11E
import Derived.Test.YteappjgdcbploaaKB
namespace Go.Proofs.Yteappjgdcbploaa
open Go.RowKit
set_option linter.unusedVariables false
set_option linter.unusedSimpArgs false

set_option maxRecDepth 100000 in
set_option maxHeartbeats 4000000 in
theorem relationsOf_at (A0 A1 A2 : Option Addr) (c0 c1 c2 : Nat) (O : List Int) (W : List (List Int)) (J : List (List (List Int))) (w0 w : World) (hz : Below w0.heap.size w0 w) (hO : RdI w0 A0 O) (hW : RdW w0 A1 W) (hJ : RdX w0 A2 J) (h6 : O.length ≤ 6) (hs : Num.shapeB O W J = true) :
    Calls Try.prog 127 #[.agg #[.slice A0 O.length c0, .slice A1 W.length c1, .slice A2 J.length c2]] w fun e w' => ∃ v, e = .returned v ∧ RelsOut w0 w' w.heap.size v (Num.rels O W J) ∧ Below w.heap.size w w' := by
  obtain ⟨i0, hi, hz0, hz1, hz2⟩ := info_parts infoRel
  obtain ⟨eW, eJ, er⟩ := Num.shapeB_out hs
  have b0 : Below w.heap.size w (w.alloc (.cells #[.slice A0 O.length c0, .slice A1 W.length c1, .slice A2 J.length c2] 29)) := by go_grown
  have HO := Lib.hid ((hO.below' hz).below' b0)
  have HW := Lib.hid ((hW.below' hz).below' b0)
  have HJ := Lib.hid ((hJ.below' hz).below' b0)
  have HZ := Lib.hid hz
  have hzs := hz.size
  have HWw := Lib.hid hW
  have HJw := Lib.hid hJ
  have BX := (Blk.new w [.slice A0 O.length c0, .slice A1 W.length c1, .slice A2 J.length c2] 29).c3
  have lW : O.length ≤ W.length := by omega
  have lJ : O.length ≤ J.length := by omega
  have HR : Hid (∀ i, i < O.length → (J.getD i []).length ≤ 5 - i) := Lib.hid fun i hi => by have := er i (by omega); omega
  clear hz hO hW hJ eW eJ er hs
  generalize hW0 : (w.alloc (.cells #[.slice A0 O.length c0, .slice A1 W.length c1, .slice A2 J.length c2] 29)) = W0 at *
  obtain ⟨bl, bx0, bx1, bx2⟩ := BX
  go_enter Try.func127, Try.ntmps127
  go_wp2_with (fail)
  clear hW0
  go_loopw [3, 4, 12] (fun s3 s4 s12 wr => ∃ (i : Nat) (ps qs : List RelV), s12 = .int .i64 i ∧ i ≤ O.length ∧ Hid (OwnR wr W0.heap.size s3 ps) ∧ Hid (OwnR wr W0.heap.size s4 qs) ∧ Hid (ApartV s3 s4) ∧ Hid (ps.map (·.2) = Num.relsP O W i) ∧ Hid (qs.map (·.2) = Num.relsC O J i) ∧ Hid (∀ p, p ∈ ps ∨ p ∈ qs → RelRd w0 p) ∧ ps.length ≤ i ∧ qs.length ≤ 6 * i ∧ Below W0.heap.size W0 wr) (fun _ _ s12 _ => O.length - (intOf s12).toNat)
  case atStart => exact ⟨0, [], [], rfl, by omega, Lib.hid (OwnR.nil _ _), Lib.hid (OwnR.nil _ _), Lib.hid (.inl rfl), Lib.hid rfl, Lib.hid rfl, Lib.hid (fun p hp => by rcases hp with h | h <;> simp at h), by simp, by simp, Below.refl _ _⟩
  case round =>
    obtain ⟨i, ps, qs, rfl, hi', hP, hQ, hap, hpm, hqm, hrd, lp, lq, bel⟩ := hrel
    have zb := bel.size
    by_cases hlt : i < O.length
    · obtain ⟨g, o, rfl, hg, hc⟩ := (HO.out.below' bel) i hlt
      obtain ⟨g1, o1, B1, d1, rfl, hg1, hc1, hl1, hr1⟩ := (HW.out.below' bel) i (by omega)
      obtain ⟨g2, o2, B2, d2, rfl, hg2, hc2, hl2, hr2⟩ := (HJ.out.below' bel) i (by omega)
      have j0 : (0 : Int) ≤ (i : Int) := by omega
      have j1 : (i : Int) < (O.length : Int) := by omega
      have j2 : (i : Int) < (W.length : Int) := by omega
      have j3 : (i : Int) < (J.length : Int) := by omega
      have y0 : wr.cell? ⟨w.heap.size, 0, none⟩ = some (.slice (some ⟨g, o, none⟩) O.length c0) := by rw [bel.cell bl]; exact bx0
      have y1 : wr.cell? ⟨w.heap.size, 1, none⟩ = some (.slice (some ⟨g1, o1, none⟩) W.length c1) := by rw [bel.cell bl]; exact bx1
      have y2 : wr.cell? ⟨w.heap.size, 2, none⟩ = some (.slice (some ⟨g2, o2, none⟩) J.length c2) := by rw [bel.cell bl]; exact bx2
      have hRr := HR.out i hlt
      have hRdP : Hid (RelRd w0 (.slice B1 (W.getD i []).length d1, ⟨W.getD i [], i, i, O.getD i 0⟩)) := Lib.hid (by
        obtain ⟨g1', o1', B1', d1', e1, hg1', hc1', hl1', hr1'⟩ := HWw.out i (by omega)
        simp only [Option.some.injEq, Addr.mk.injEq, and_true] at e1
        obtain ⟨rfl, rfl⟩ := e1
        have hh : wr.cell? ⟨g1, o1 + i, none⟩ = w0.cell? ⟨g1, o1 + i, none⟩ := by rw [bel.cell (by have := b0.size; show g1 < _; omega), b0.cell (by show g1 < _; omega), HZ.out.cell hg1']
        rw [hh, hc1'] at hc1
        simp only [Option.some.injEq, Value.slice.injEq, true_and] at hc1
        obtain ⟨rfl, rfl⟩ := hc1
        exact ⟨_, _, rfl, hr1', hl1'⟩)
      have hRdC : Hid (∀ k, k < (J.getD i []).length → ∃ g3 o3 B3 d3, B2 = some ⟨g3, o3, none⟩ ∧ g3 < W0.heap.size ∧ W0.cell? ⟨g3, o3 + k, none⟩ = some (.slice B3 ((J.getD i []).getD k []).length d3) ∧ RelRd w0 (.slice B3 ((J.getD i []).getD k []).length d3, ⟨(J.getD i []).getD k [], (i : Int) + 1 + (k : Int), i, O.getD i 0⟩)) := Lib.hid fun k hk => by
        obtain ⟨g2', o2', B2', d2', e2, hg2', hc2', hl2', hr2'⟩ := HJw.out i (by omega)
        simp only [Option.some.injEq, Addr.mk.injEq, and_true] at e2
        obtain ⟨rfl, rfl⟩ := e2
        have hh : wr.cell? ⟨g2, o2 + i, none⟩ = w0.cell? ⟨g2, o2 + i, none⟩ := by rw [bel.cell (by have := b0.size; show g2 < _; omega), b0.cell (by show g2 < _; omega), HZ.out.cell hg2']
        rw [hh, hc2'] at hc2
        simp only [Option.some.injEq, Value.slice.injEq, true_and] at hc2
        obtain ⟨rfl, rfl⟩ := hc2
        obtain ⟨g3, o3, B3, d3, rfl, hg3, hc3, hl3, hr3⟩ := hr2' k hk
        exact ⟨g3, o3, B3, d3, rfl, by have := b0.size; omega, by rw [b0.cell (by show g3 < _; omega), HZ.out.cell hg3]; exact hc3, _, _, rfl, hr3, hl3⟩
      have hPN : Hid (Num.relsP O W (i + 1) = Num.relsP O W i ++ [⟨W.getD i [], i, i, O.getD i 0⟩]) := Lib.hid rfl
      have hCN : Hid (Num.relsC O J (i + 1) = Num.relsC O J i ++ Num.relsK (J.getD i []) i (O.getD i 0) (J.getD i []).length) := Lib.hid rfl
      clear hr1 hr2
      unfold maxLen at hl1 hl2
      generalize W.getD i [] = x at *
      generalize J.getD i [] = r at *
      generalize O.getD i 0 = y at *
      have HZF : Hid (∀ w3, Below W0.heap.size W0 w3 → w3.cell? ⟨w.heap.size, 2, none⟩ = some (.slice (some ⟨g2, o2, none⟩) J.length c2) ∧ w3.cell? ⟨g2, o2 + i, none⟩ = some (.slice B2 r.length d2)) := Lib.hid fun w3 hb => ⟨by rw [hb.cell bl]; exact bx2, by
        obtain ⟨g2', o2', B2', d2', e2, hg2', hc2', -, -⟩ := HJw.out i (by omega)
        simp only [Option.some.injEq, Addr.mk.injEq, and_true] at e2
        obtain ⟨rfl, rfl⟩ := e2
        have q1 : g2 < W0.heap.size := by have := b0.size; omega
        rw [hb.cell q1]
        rw [bel.cell q1] at hc2
        exact hc2⟩
      have HC1 := Lib.hid (rdC_lit wr [.slice B1 x.length d1, .int .i64 i, .int .i64 i, .int .i64 y] 102)
      have HONE : Hid (∀ u ∈ [Value.slice B1 x.length d1, .int .i64 (i : Int), .int .i64 (i : Int), .int .i64 y], u.oneCell' = true) := Lib.hid (by simp [Value.oneCell'])
      have HPA : Hid (OwnR (wr.alloc (.cells #[.slice B1 x.length d1, .int .i64 (i : Int), .int .i64 (i : Int), .int .i64 y] 102)) W0.heap.size u3 ps) := Lib.hid (World.ownsRow.alloc hP.out _)
      go_wp2_with (first | (at_builtin; refine wpList_append_listN _ rfl _ _ 118 rfl W0.heap.size 102 i0 (.agg #[.slice none 0 0, .int .i64 0, .int .i64 0, .int .i64 0]) 4 48 Try.underlying118 hi hz0 hz1 hz2 rfl (by decide) _ ps.length (relCells ps) rfl HPA.out (some ⟨wr.heap.size, 0, none⟩) 1 1 [.slice B1 x.length d1, .int .i64 i, .int .i64 i, .int .i64 y] (by simp) rfl HC1.out HONE.out (by unfold maxLen; omega) (by omega) (by go_size) ?_; intro v3 w3 own3 gr3 at3; obtain ⟨p1, p2, p3⟩ := rel_push (p := (.slice B1 x.length d1, ⟨x, i, i, y⟩)) hP.out bel zb own3 gr3 at3; obtain ⟨z2, z3⟩ := HZF.out w3 p2))
      obtain ⟨p4, p5⟩ := p3 _ _ hQ.out hap.out
      have HP3 := Lib.hid p1
      have HQ3 := Lib.hid p4
      have HAP3 := Lib.hid p5
      have hpm3 : Hid ((ps ++ [(Value.slice B1 x.length d1, (⟨x, i, i, y⟩ : Num.Rel))]).map (·.2) = Num.relsP O W (i + 1)) := Lib.hid (by rw [hPN.out, List.map_append, hpm.out]; rfl)
      have hrd3 : Hid (∀ p, p ∈ ps ++ [(Value.slice B1 x.length d1, (⟨x, i, i, y⟩ : Num.Rel))] ∨ p ∈ qs → RelRd w0 p) := Lib.hid fun p hp => by
        rcases hp with h | h
        · rcases List.mem_append.mp h with h | h
          · exact hrd.out p (.inl h)
          · rw [List.mem_singleton.mp h]; exact hRdP.out
        · exact hrd.out p (.inr h)
      have lp3 : (ps ++ [(Value.slice B1 x.length d1, (⟨x, i, i, y⟩ : Num.Rel))]).length ≤ i + 1 := by simp; omega
      generalize hPS : ps ++ [(Value.slice B1 x.length d1, (⟨x, i, i, y⟩ : Num.Rel))] = PS at *
      have L3 := p2
      have zb3 := p2.size
      clear own3 gr3 at3 p1 p2 p3 p4 p5 hP hQ hap hpm hrd hRdP HPA HC1 HONE y0 y1 y2 hc hc1 hc2 hPN hPS lp bel zb hg hg1 hg2 HZF
      go_loopw [4, 35] (fun s4 s35 wr => ∃ (k : Nat) (rs : List RelV), s35 = .int .i64 k ∧ k ≤ r.length ∧ Hid (OwnR wr W0.heap.size v3 PS) ∧ Hid (OwnR wr W0.heap.size s4 rs) ∧ Hid (ApartV v3 s4) ∧ Hid (rs.map (·.2) = Num.relsC O J i ++ Num.relsK r i y k) ∧ Hid (∀ p, p ∈ PS ∨ p ∈ rs → RelRd w0 p) ∧ rs.length ≤ 6 * i + k ∧ Below W0.heap.size W0 wr) (fun _ s35 _ => r.length - (intOf s35).toNat)
      case atStart => exact ⟨0, qs, rfl, by omega, HP3, HQ3, HAP3, Lib.hid (by rw [hqm.out]; simp [Num.relsK]), hrd3, by omega, L3⟩
      case round =>
        obtain ⟨k, rs, rfl, hk, hP, hQ, hap, hrm, hrd, lr, bel⟩ := hrel
        clear HP3 HQ3 HAP3 hrd3 L3 zb3 z2 z3 hqm lq
        have zb := bel.size
        by_cases hlk : k < r.length
        · obtain ⟨g3, o3, B3, d3, rfl, hg3, hc3, hrdk⟩ := hRdC.out k hlk
          have k0 : (0 : Int) ≤ (k : Int) := by omega
          have k1 : (k : Int) < (r.length : Int) := by omega
          have y3 : wr.cell? ⟨g3, o3 + k, none⟩ = some (.slice B3 (r.getD k []).length d3) := by rw [bel.cell (by show g3 < _; omega)]; exact hc3
          have hw1 : IntKind.i64.wrap ((i : Int) + 1) = (i : Int) + 1 := IntWalk.i64_in _ (by omega)
          have hw2 : IntKind.i64.wrap ((i : Int) + 1 + (k : Int)) = (i : Int) + 1 + (k : Int) := IntWalk.i64_in _ (by omega)
          have hRN : Hid (Num.relsK r i y (k + 1) = Num.relsK r i y k ++ [⟨r.getD k [], (i : Int) + 1 + (k : Int), i, y⟩]) := Lib.hid rfl
          have HRK := Lib.hid hrdk
          clear hc3 hrdk
          generalize r.getD k [] = z at *
          have HC1 := Lib.hid (rdC_lit wr [.slice B3 z.length d3, .int .i64 ((i : Int) + 1 + (k : Int)), .int .i64 i, .int .i64 y] 102)
          have HONE : Hid (∀ u ∈ [Value.slice B3 z.length d3, .int .i64 ((i : Int) + 1 + (k : Int)), .int .i64 (i : Int), .int .i64 y], u.oneCell' = true) := Lib.hid (by simp [Value.oneCell'])
          have HPA : Hid (OwnR (wr.alloc (.cells #[.slice B3 z.length d3, .int .i64 ((i : Int) + 1 + (k : Int)), .int .i64 (i : Int), .int .i64 y] 102)) W0.heap.size u4 rs) := Lib.hid (World.ownsRow.alloc hQ.out _)
          have l5 : r.length ≤ 5 := by omega
          go_wp2_with (first | (at_builtin; refine wpList_append_listN _ rfl _ _ 118 rfl W0.heap.size 102 i0 (.agg #[.slice none 0 0, .int .i64 0, .int .i64 0, .int .i64 0]) 4 48 Try.underlying118 hi hz0 hz1 hz2 rfl (by decide) _ rs.length (relCells rs) rfl HPA.out (some ⟨wr.heap.size, 0, none⟩) 1 1 [.slice B3 z.length d3, .int .i64 ((i : Int) + 1 + (k : Int)), .int .i64 i, .int .i64 y] (by simp) rfl HC1.out HONE.out (by unfold maxLen; omega) (by omega) (by go_size) ?_; intro v4 w4 own4 gr4 at4))
          obtain ⟨p1, p2, p3⟩ := rel_push (p := (.slice B3 z.length d3, ⟨z, (i : Int) + 1 + (k : Int), i, y⟩)) hQ.out bel zb own4 gr4 at4
          obtain ⟨p4, p5⟩ := p3 _ _ hP.out hap.out.symm
          have HP3 := Lib.hid p1
          have HQ3 := Lib.hid p4
          have HAP3 := Lib.hid p5.symm
          have hrm3 : Hid ((rs ++ [(Value.slice B3 z.length d3, (⟨z, (i : Int) + 1 + (k : Int), i, y⟩ : Num.Rel))]).map (·.2) = Num.relsC O J i ++ Num.relsK r i y (k + 1)) := Lib.hid (by rw [hRN.out, List.map_append, hrm.out, List.append_assoc]; rfl)
          have hrd3 : Hid (∀ p, p ∈ PS ∨ p ∈ rs ++ [(Value.slice B3 z.length d3, (⟨z, (i : Int) + 1 + (k : Int), i, y⟩ : Num.Rel))] → RelRd w0 p) := Lib.hid fun p hp => by
            rcases hp with h | h
            · exact hrd.out p (.inl h)
            · rcases List.mem_append.mp h with h | h
              · exact hrd.out p (.inr h)
              · rw [List.mem_singleton.mp h]; exact HRK.out
          have lr3 : (rs ++ [(Value.slice B3 z.length d3, (⟨z, (i : Int) + 1 + (k : Int), i, y⟩ : Num.Rel))]).length ≤ 6 * i + (k + 1) := by simp; omega
          generalize rs ++ [(Value.slice B3 z.length d3, (⟨z, (i : Int) + 1 + (k : Int), i, y⟩ : Num.Rel))] = RS at *
          have L3 := p2
          clear own4 gr4 at4 p1 p2 p3 p4 p5 hP hQ hap hrm hrd HPA HC1 HONE y3
          go_wp2_with (fail)
          exact ⟨⟨k + 1, RS, by go_num, by omega, HQ3, HP3, HAP3, hrm3, hrd3, lr3, L3⟩, by simp [intOf]; omega⟩
        · have hge : ¬ ((k : Int) < (r.length : Int)) := by omega
          obtain rfl : k = r.length := by omega
          have hqm3 : Hid (rs.map (·.2) = Num.relsC O J (i + 1)) := Lib.hid (by rw [hCN.out, hrm.out])
          go_wp2_with (fail)
          exact ⟨⟨i + 1, PS, rs, by go_num, by omega, hP, hQ, hap, hpm3, hqm3, hrd, by omega, by omega, bel⟩, by simp [intOf]; omega⟩
    · have hge : ¬ ((i : Int) < (O.length : Int)) := by omega
      obtain rfl : i = O.length := by omega
      obtain ⟨AP, cP, rfl, -⟩ := hP.out.form
      obtain ⟨AQ, cQ, rfl, hCQ⟩ := hQ.out.form
      have HCQ := Lib.hid hCQ
      have HONE := Lib.hid (relCells_one w0 qs (fun p hp => hrd.out p (.inr hp)))
      have HL := Lib.hid (relCells_len qs)
      have HB := Lib.hid (fun k hk => (World.ownsRow.lt hP.out k hk).1)
      have HM : Hid ((ps ++ qs).map (·.2) = Num.rels O W J) := Lib.hid (by rw [List.map_append, hpm.out, hqm.out]; rfl)
      clear hCQ
      go_wp2_with (first | (at_builtin; refine wpList_append_listN _ rfl _ _ 118 rfl W0.heap.size 102 i0 (.agg #[.slice none 0 0, .int .i64 0, .int .i64 0, .int .i64 0]) 4 48 Try.underlying118 hi hz0 hz1 hz2 rfl (by decide) _ ps.length (relCells ps) rfl hP.out AQ qs.length cQ (relCells qs) HL.out rfl HCQ.out HONE.out (by unfold maxLen; omega) (by omega) (by omega) ?_; intro v3 w3 own3 gr3 at3))
      have own4 : OwnR w3 W0.heap.size v3 (ps ++ qs) := by
        unfold OwnR
        rw [relCells_app]
        simpa using own3
      have L := bel.grown gr3 zb HB.out
      go_wp2_with (fail)
      go_ret
      exact ⟨_, rfl, ⟨ps ++ qs, ownsRow_base own4 b0.size, HM.out, fun p hp => hrd.out p (List.mem_append.mp hp)⟩, b0.trans (L.mono b0.size)⟩
end Go.Proofs.Yteappjgdcbploaa
