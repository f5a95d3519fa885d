/- Presentations of the program: IsPresentation. -/
import Derived.Test.YteappjgdcbploaaL11F
import Derived.Test.YteappjgdcbploaaL11B
namespace Go.Proofs.Yteappjgdcbploaa
open Go.RowKit
set_option linter.unusedVariables false
set_option linter.unusedSimpArgs false

theorem Num.relsP_mem {O : List Int} {W : List (List Int)} {r : Num.Rel} : ∀ {i : Nat}, r ∈ Num.relsP O W i ↔ ∃ j, j < i ∧ r = ⟨W.getD j [], j, j, O.getD j 0⟩
  | 0 => by simp [Num.relsP]
  | i + 1 => by
    rw [Num.relsP, List.mem_append, Num.relsP_mem (i := i), List.mem_singleton]
    constructor
    · rintro (⟨j, h1, h2⟩ | h)
      · exact ⟨j, by omega, h2⟩
      · exact ⟨i, by omega, h⟩
    · rintro ⟨j, h1, h2⟩
      rcases Nat.lt_succ_iff_lt_or_eq.mp h1 with h | rfl
      · exact .inl ⟨j, h, h2⟩
      · exact .inr h2
theorem Num.relsK_mem {r : List (List Int)} {i : Nat} {o : Int} {q : Num.Rel} : ∀ {k : Nat}, q ∈ Num.relsK r i o k ↔ ∃ j, j < k ∧ q = ⟨r.getD j [], (i : Int) + 1 + (j : Int), i, o⟩
  | 0 => by simp [Num.relsK]
  | k + 1 => by
    rw [Num.relsK, List.mem_append, Num.relsK_mem (k := k), List.mem_singleton]
    constructor
    · rintro (⟨j, h1, h2⟩ | h)
      · exact ⟨j, by omega, h2⟩
      · exact ⟨k, by omega, h⟩
    · rintro ⟨j, h1, h2⟩
      rcases Nat.lt_succ_iff_lt_or_eq.mp h1 with h | rfl
      · exact .inl ⟨j, h, h2⟩
      · exact .inr h2
theorem Num.relsC_mem {O : List Int} {J : List (List (List Int))} {q : Num.Rel} : ∀ {i : Nat}, q ∈ Num.relsC O J i ↔ ∃ j, j < i ∧ q ∈ Num.relsK (J.getD j []) j (O.getD j 0) (J.getD j []).length
  | 0 => by simp [Num.relsC]
  | i + 1 => by
    rw [Num.relsC, List.mem_append, Num.relsC_mem (i := i)]
    constructor
    · rintro (⟨j, h1, h2⟩ | h)
      · exact ⟨j, by omega, h2⟩
      · exact ⟨i, by omega, h⟩
    · rintro ⟨j, h1, h2⟩
      rcases Nat.lt_succ_iff_lt_or_eq.mp h1 with h | rfl
      · exact .inl ⟨j, h, h2⟩
      · exact .inr h2
theorem Num.rels_mem {O : List Int} {W : List (List Int)} {J : List (List (List Int))} {q : Num.Rel} : q ∈ Num.rels O W J ↔ (∃ j, j < O.length ∧ q = ⟨W.getD j [], j, j, O.getD j 0⟩) ∨ ∃ j k, j < O.length ∧ k < (J.getD j []).length ∧ q = ⟨(J.getD j []).getD k [], (j : Int) + 1 + (k : Int), j, O.getD j 0⟩ := by
  rw [Num.rels, List.mem_append, Num.relsP_mem, Num.relsC_mem]
  refine or_congr Iff.rfl ⟨?_, ?_⟩
  · rintro ⟨j, h1, h2⟩
    obtain ⟨k, h3, h4⟩ := Num.relsK_mem.mp h2
    exact ⟨j, k, h1, h3, h4⟩
  · rintro ⟨j, k, h1, h3, h4⟩
    exact ⟨j, h1, Num.relsK_mem.mpr ⟨k, h3, h4⟩⟩
theorem Num.rels_by {O : List Int} {W : List (List Int)} {J : List (List (List Int))} {q : Num.Rel} (h : q ∈ Num.rels O W J) : ∃ i : Nat, i < O.length ∧ q.b = i := by
  rcases Num.rels_mem.mp h with ⟨j, h1, rfl⟩ | ⟨j, k, h1, h2, rfl⟩
  · exact ⟨j, h1, rfl⟩
  · exact ⟨j, h1, rfl⟩
theorem Num.relsC_len {O : List Int} {J : List (List (List Int))} : ∀ {i : Nat}, (∀ j, j < i → (J.getD j []).length ≤ 6) → (Num.relsC O J i).length ≤ 6 * i
  | 0, _ => by simp [Num.relsC]
  | i + 1, h => by
    rw [Num.relsC, List.length_append, Num.relsK_len]
    have h1 := Num.relsC_len (i := i) (O := O) fun j hj => h j (by omega)
    have h2 := h i (by omega)
    omega
theorem Num.rels_len {O : List Int} {W : List (List Int)} {J : List (List (List Int))} (h : Num.shapeB O W J = true) (h6 : O.length ≤ 6) : (Num.rels O W J).length ≤ 100 := by
  obtain ⟨h1, h2, h3⟩ := Num.shapeB_out h
  have := Num.relsC_len (O := O) (J := J) (i := O.length) fun j hj => by have := h3 j (by omega); omega
  rw [Num.rels, List.length_append, Num.relsP_len]
  omega
theorem Num.preB_rels {O : List Int} {W : List (List Int)} {J : List (List (List Int))} (h0 : Num.ordC O = 0) (hs : Num.shapeB O W J = true) : Num.preB O W J = true ↔ ∀ q, q ∈ Num.rels O W J → Num.fitB O q.x (q.b.toNat + 1) = true := by
  obtain ⟨s1, s2, s3⟩ := Num.shapeB_out hs
  constructor
  · intro h q hq
    obtain ⟨-, -, -, h4, h5⟩ := Num.preB_out h
    rcases Num.rels_mem.mp hq with ⟨j, h1, rfl⟩ | ⟨j, k, h1, h2, rfl⟩
    · simpa using h4 j h1
    · simpa using (Num.conB_out (h5 j h1)).2 k h2
  · intro h
    refine Num.preB_ok h0 s1 s2 (fun i hi => ?_) fun i hi => Num.conB_ok (s3 i (by omega)) fun k hk => ?_
    · simpa using h _ (Num.rels_mem.mpr (.inl ⟨i, hi, rfl⟩))
    · simpa using h _ (Num.rels_mem.mpr (.inr ⟨i, k, hi, hk, rfl⟩))
theorem Num.preB_shape {O : List Int} {W : List (List Int)} {J : List (List (List Int))} (h : Num.preB O W J = true) : Num.ordC O = 0 ∧ Num.shapeB O W J = true := by
  obtain ⟨h1, h2, h3, h4, h5⟩ := Num.preB_out h
  exact ⟨h1, Num.shapeB_ok h2 h3 fun i hi => (Num.conB_out (h5 i (by omega))).1⟩
/-- One relation of a list as it is loaded. -/
theorem OwnR.at_ {w : World} {base : Nat} {A : Option Addr} {n c : Nat} {ps : List RelV} (h : OwnR w base (.slice A n c) ps) {j : Nat} (hj : j < ps.length) :
    ∃ g, A = some ⟨g, 0, none⟩ ∧ base ≤ g ∧ g < w.heap.size ∧ w.cell? ⟨g, j * 4, none⟩ = some ps[j].1 ∧ w.cell? ⟨g, j * 4 + 1, none⟩ = some (.int .i64 ps[j].2.g) ∧ w.cell? ⟨g, j * 4 + 2, none⟩ = some (.int .i64 ps[j].2.b) ∧ w.cell? ⟨g, j * 4 + 3, none⟩ = some (.int .i64 ps[j].2.o) := by
  have h0 := h
  rcases h.2 with ⟨h2, h3⟩ | ⟨g, cap, cur, hv, hb, hg, h1⟩
  · omega
  · simp only [Value.slice.injEq] at hv
    obtain ⟨rfl, rfl, rfl⟩ := hv
    have hl := World.ownsRow.lt h0 g rfl
    refine ⟨g, rfl, hl.1, hl.2, ?_, ?_, ?_, ?_⟩
    · rw [World.ownsRow.cellAt h0 (j * 4) (by omega)]
      exact relCells_at ps j 0 hj (by omega)
    · rw [World.ownsRow.cellAt h0 (j * 4 + 1) (by omega)]
      exact relCells_at ps j 1 hj (by omega)
    · rw [World.ownsRow.cellAt h0 (j * 4 + 2) (by omega)]
      exact relCells_at ps j 2 hj (by omega)
    · rw [World.ownsRow.cellAt h0 (j * 4 + 3) (by omega)]
      exact relCells_at ps j 3 hj (by omega)
set_option maxRecDepth 100000 in
set_option maxHeartbeats 4000000 in
/-- Of a presentation whose orders and shape are as they should be. -/
theorem iIsPres_main (A0 A1 A2 : Option Addr) (c0 c1 c2 : Nat) (O : List Int) (W : List (List Int)) (J : List (List (List Int))) (w : World) (hO : RdI w A0 O) (hW : RdW w A1 W) (hJ : RdX w A2 J) (m1 : W.length ≤ maxLen) (m2 : J.length ≤ maxLen) (hc : O.length ≤ c0)
    (h0 : Num.ordC O = 0) (hs : Num.shapeB O W J = true) :
    Calls Try.prog 94 #[.agg #[.slice A0 O.length c0, .slice A1 W.length c1, .slice A2 J.length c2]] w (RetB (Num.preB O W J) w) := by
  obtain ⟨h6, hg, -⟩ := Num.ordC_zero h0
  have hl : O.length ≤ maxLen := by unfold maxLen; omega
  have ho : ∀ j, j < O.length → 1 ≤ O.getD j 0 := fun j hj => by have := Num.gpsB_at hg hj; omega
  have b0 : Below w.heap.size w (w.alloc (.cells #[.slice A0 O.length c0, .slice A1 W.length c1, .slice A2 J.length c2] 29)) := by go_grown
  have HO := Lib.hid (hO.below' b0)
  have BX := (Blk.new w [.slice A0 O.length c0, .slice A1 W.length c1, .slice A2 J.length c2] 29).c3
  have HCO := Lib.hid (ordersCode_any A0 c0 O (w.alloc (.cells #[.slice A0 O.length c0, .slice A1 W.length c1, .slice A2 J.length c2] 29)) HO.out hl)
  rw [h0] at HCO
  have HCS := Lib.hid (shape_any A0 A1 A2 c0 c1 c2 O W J (w.alloc (.cells #[.slice A0 O.length c0, .slice A1 W.length c1, .slice A2 J.length c2] 29)) (hJ.below' b0) h6 m1 m2)
  rw [hs] at HCS
  have HCR : Hid (∀ W', Below (w.alloc (.cells #[.slice A0 O.length c0, .slice A1 W.length c1, .slice A2 J.length c2] 29)).heap.size (w.alloc (.cells #[.slice A0 O.length c0, .slice A1 W.length c1, .slice A2 J.length c2] 29)) W' → Calls Try.prog 127 #[.agg #[.slice A0 O.length c0, .slice A1 W.length c1, .slice A2 J.length c2]] W' fun e w' => ∃ v, e = .returned v ∧ RelsOut W' w' W'.heap.size v (Num.rels O W J) ∧ Below W'.heap.size W' w') :=
    Lib.hid fun W' hb => relationsOf_any A0 A1 A2 c0 c1 c2 O W J W' (HO.out.below' hb) ((hW.below' b0).below' hb) ((hJ.below' b0).below' hb) h6 hs
  have HY := Lib.hid (Num.preB_rels h0 hs)
  have HOO := Lib.hid ho
  have HLR := Lib.hid (Num.rels_len hs h6)
  clear hO hW hJ hs hg ho h0
  generalize hW0 : (w.alloc (.cells #[.slice A0 O.length c0, .slice A1 W.length c1, .slice A2 J.length c2] 29)) = W0 at *
  obtain ⟨bl, bx0, bx1, bx2⟩ := BX
  go_enter Try.func94, Try.ntmps94
  go_wp2_with (fail)
  clear hW0
  refine HCO.out.mono ?_; rintro e w' ⟨rfl, rfl⟩
  go_wp2_with (fail)
  refine HCS.out.mono ?_; rintro e w1 ⟨rfl, hb1⟩
  have L1 := hb1
  have HC2 := Lib.hid (HCR.out w1 L1)
  have t1 : w.heap.size < w1.heap.size := Nat.lt_of_lt_of_le bl hb1.size
  have x0 : w1.cell? ⟨w.heap.size, 0, none⟩ = some (.slice A0 O.length c0) := by rw [L1.cell bl]; exact bx0
  have x1 : w1.cell? ⟨w.heap.size, 1, none⟩ = some (.slice A1 W.length c1) := by rw [L1.cell bl]; exact bx1
  have x2 : w1.cell? ⟨w.heap.size, 2, none⟩ = some (.slice A2 J.length c2) := by rw [L1.cell bl]; exact bx2
  clear hb1 HCO HCS HCR
  go_wp2_with (fail)
  refine HC2.out.mono ?_; rintro e w2 ⟨v, rfl, hro, hb2⟩
  obtain ⟨ps, hps, hpm, hrd⟩ := hro
  have L2 := bstep L1 L1.size hb2
  have hpl : ps.length ≤ 1000000 := by
    have h1 := congrArg List.length hpm
    rw [List.length_map] at h1
    have h2 := HLR.out
    omega
  obtain ⟨AP, cP, rfl, -⟩ := hps.form
  have HPS := Lib.hid hps
  have HBY : Hid (∀ j, (hj : j < ps.length) → ∃ i : Nat, i < O.length ∧ ps[j].2.b = i) := Lib.hid fun j hj => Num.rels_by (by rw [← hpm]; exact List.mem_map_of_mem (List.getElem_mem hj))
  have HYP : Hid (Num.preB O W J = true ↔ ∀ j, (hj : j < ps.length) → Num.fitB O ps[j].2.x (ps[j].2.b.toNat + 1) = true) := Lib.hid (by
    rw [HY.out, ← hpm]
    constructor
    · intro h j hj
      exact h _ (List.mem_map_of_mem (List.getElem_mem hj))
    · intro h q hq
      obtain ⟨p, hp, rfl⟩ := List.mem_map.mp hq
      obtain ⟨j, hj, rfl⟩ := List.getElem_of_mem hp
      exact h j hj)
  have HRD : Hid (∀ j, (hj : j < ps.length) → RelRd w1 ps[j]) := Lib.hid fun j hj => hrd _ (List.getElem_mem hj)
  have z0 : w2.cell? ⟨w.heap.size, 0, none⟩ = some (.slice A0 O.length c0) := by rw [L2.cell bl]; exact bx0
  have t2 : w.heap.size < w2.heap.size := Nat.lt_of_lt_of_le bl L2.size
  have HB2 := Lib.hid hb2
  clear HC2 HY hps hpm hrd hb2 x0 x1 x2
  go_wp2_with (fail)
  go_loopw [17] (fun s wr => ∃ j : Nat, j ≤ ps.length ∧ s = .int .i64 j ∧ Hid (∀ t, t < j → (ht : t < ps.length) → Num.fitB O ps[t].2.x (ps[t].2.b.toNat + 1) = true) ∧ Below w2.heap.size w2 wr) (fun s _ => ps.length - (intOf s).toNat)
  case atStart => exact ⟨0, by omega, rfl, Lib.hid fun j hj => by omega, Below.refl _ _⟩
  case round =>
    obtain ⟨j, hj, rfl, hq, bel⟩ := hrel
    have L3 := bstep L2 L2.size bel
    by_cases hlt : j < ps.length
    · obtain ⟨g, rfl, hgb, hgl, k0, k1, k2, k3⟩ := HPS.out.at_ hlt
      obtain ⟨i, hi, hib⟩ := HBY.out j hlt
      obtain ⟨B, d, hu, hr, hlx⟩ := HRD.out j hlt
      have HS : Hid (Num.fitB O ps[j].2.x (i + 1) = true → ∀ t, t < j + 1 → (ht : t < ps.length) → Num.fitB O ps[t].2.x (ps[t].2.b.toNat + 1) = true) := Lib.hid fun h t h1 ht => by
        rcases Nat.lt_succ_iff_lt_or_eq.mp h1 with h2 | rfl
        · exact hq.out t h2 ht
        · rw [hib]; simpa using h
      have HN : Hid (Num.fitB O ps[j].2.x (i + 1) = false → Num.preB O W J = false) := Lib.hid fun h => by
        cases hv : Num.preB O W J with
        | false => rfl
        | true => have := HYP.out.mp hv j hlt; rw [hib] at this; simp only [Int.toNat_natCast] at this; rw [h] at this; cases this
      have i0 : (0 : Int) ≤ (j : Int) := by omega
      have i1 : (j : Int) < (ps.length : Int) := by omega
      rw [hu] at k0
      rw [hib] at k2
      have HR := Lib.hid ((hr.below' HB2.out).below' bel)
      clear hq hu hib hr
      generalize ps[j].2.x = x at *
      generalize ps[j].2.g = q1 at *
      generalize ps[j].2.o = q2 at *
      have y0 : wr.cell? ⟨g, j * 4, none⟩ = some (.slice B x.length d) := by rw [bel.cell hgl]; exact k0
      have y1 : wr.cell? ⟨g, j * 4 + 1, none⟩ = some (.int .i64 q1) := by rw [bel.cell hgl]; exact k1
      have y2 : wr.cell? ⟨g, j * 4 + 2, none⟩ = some (.int .i64 i) := by rw [bel.cell hgl]; exact k2
      have y3 : wr.cell? ⟨g, j * 4 + 3, none⟩ = some (.int .i64 q2) := by rw [bel.cell hgl]; exact k3
      have y4 : wr.cell? ⟨w.heap.size, 0, none⟩ = some (.slice A0 O.length c0) := by rw [bel.cell t2]; exact z0
      have t3 : w.heap.size < wr.heap.size := Nat.lt_of_lt_of_le t2 bel.size
      have BW : Below wr.heap.size wr (wr.alloc (.cells #[.slice B x.length d, .int .i64 q1, .int .i64 i, .int .i64 q2] 102)) := by go_grown
      have HV := Lib.hid (isValid_any B A0 d c0 x O q1 q2 i (wr.alloc (.cells #[.slice B x.length d, .int .i64 q1, .int .i64 i, .int .i64 q2] 102)) (HR.out.below' BW) (HO.out.below' (bstep L3 L3.size BW)) hlx h6 hc hi HOO.out)
      have L4 := bstep bel bel.size BW
      clear k0 k1 k2 k3 BW
      cases hf : Num.fitB O x (i + 1) with
      | true =>
        rw [hf] at HV
        have HQ := Lib.hid (HS.out hf)
        clear hf
        go_wp2_with (fail)
        refine HV.out.mono ?_; rintro e w5 ⟨rfl, hb5⟩
        have L5 := bstep L4 L4.size hb5
        clear hb5 HV
        go_wp2_with (fail)
        exact ⟨⟨j + 1, by omega, by go_num, HQ, L5⟩, by simp [intOf]; omega⟩
      | false =>
        rw [hf] at HV
        have HQ := Lib.hid (HN.out hf)
        clear hf
        go_wp2_with (fail)
        refine HV.out.mono ?_; rintro e w5 ⟨rfl, hb5⟩
        have L5 := bstep L4 L4.size hb5
        clear hb5 HV
        go_wp2_with (fail)
        go_ret
        exact ⟨ret_b HQ.out.symm, bstep b0 b0.size (bstep L2 L2.size L5)⟩
    · have hge : ¬ ((j : Int) < (ps.length : Int)) := by omega
      obtain rfl : j = ps.length := by omega
      have HQ : Hid (Num.preB O W J = true) := Lib.hid (HYP.out.mpr fun t ht => hq.out t ht ht)
      go_wp2_with (fail)
      go_ret
      exact ⟨ret_b HQ.out.symm, bstep b0 b0.size L3⟩
set_option maxHeartbeats 1000000 in
theorem iIsPres_any (v : Value) (p : Pres) (w : World) (h : PresC w v p) : Calls Try.prog 94 #[v] w (RetB p.ok w) := by
  obtain ⟨O, W, J⟩ := p
  obtain ⟨A0, c0, A1, c1, A2, c2, rfl, ⟨hO, hW, hJ⟩, m0, m1, m2, hc⟩ := h
  replace hO : RdI w A0 O := hO
  replace hW : RdW w A1 W := hW
  replace hJ : RdX w A2 J := hJ
  replace m0 : O.length ≤ maxLen := m0
  replace m1 : W.length ≤ maxLen := m1
  replace m2 : J.length ≤ maxLen := m2
  replace hc : O.length ≤ c0 := hc
  show Calls Try.prog 94 #[.agg #[.slice A0 O.length c0, .slice A1 W.length c1, .slice A2 J.length c2]] w (RetB (Num.preB O W J) w)
  by_cases h0 : Num.ordC O = 0
  · cases hs : Num.shapeB O W J with
    | true => exact iIsPres_main A0 A1 A2 c0 c1 c2 O W J w hO hW hJ m1 m2 hc h0 hs
    | false =>
      have b0 : Below w.heap.size w (w.alloc (.cells #[.slice A0 O.length c0, .slice A1 W.length c1, .slice A2 J.length c2] 29)) := by go_grown
      have HB : Hid (Num.preB O W J = false) := Lib.hid (by
        cases hv : Num.preB O W J with
        | false => rfl
        | true => have := (Num.preB_shape hv).2; rw [hs] at this; cases this)
      have HCO := Lib.hid (ordersCode_any A0 c0 O (w.alloc (.cells #[.slice A0 O.length c0, .slice A1 W.length c1, .slice A2 J.length c2] 29)) (hO.below' b0) m0)
      rw [h0] at HCO
      have HCS := Lib.hid (shape_any A0 A1 A2 c0 c1 c2 O W J (w.alloc (.cells #[.slice A0 O.length c0, .slice A1 W.length c1, .slice A2 J.length c2] 29)) (hJ.below' b0) (Num.ordC_zero h0).1 m1 m2)
      rw [hs] at HCS
      clear hO hW hJ h0 hs
      go_enter Try.func94, Try.ntmps94
      go_wp2_with (fail)
      refine HCO.out.mono ?_; rintro e w' ⟨rfl, rfl⟩
      go_wp2_with (fail)
      refine HCS.out.mono ?_; rintro e w1 ⟨rfl, hb1⟩
      go_wp2_with (fail)
      go_ret
      exact ⟨ret_b HB.out.symm, bstep b0 b0.size hb1⟩
  · have b0 : Below w.heap.size w (w.alloc (.cells #[.slice A0 O.length c0, .slice A1 W.length c1, .slice A2 J.length c2] 29)) := by go_grown
    have HB : Hid (Num.preB O W J = false) := Lib.hid (Num.preB_no fun hh => h0 hh.1)
    have HCO := Lib.hid (ordersCode_any A0 c0 O (w.alloc (.cells #[.slice A0 O.length c0, .slice A1 W.length c1, .slice A2 J.length c2] 29)) (hO.below' b0) m0)
    have T1 : (Num.ordC O != 0) = true := by simpa using h0
    clear hO hW hJ h0
    generalize Num.ordC O = q at *
    go_enter Try.func94, Try.ntmps94
    go_wp2_with (fail)
    refine HCO.out.mono ?_; rintro e w' ⟨rfl, rfl⟩
    go_wp2_with (fail)
    go_ret
    exact ⟨ret_b HB.out.symm, b0⟩
theorem iIsPresentation_ok (v0 : Value) (x0 : Pres) (w : World) (h0 : PresC w v0 x0) (s0 : spPres.sz x0 ≤ 1048576) : Calls Try.prog 94 #[v0] w (RetB (rIsPresentation x0) w) := iIsPres_any v0 x0 w h0
end Go.Proofs.Yteappjgdcbploaa
