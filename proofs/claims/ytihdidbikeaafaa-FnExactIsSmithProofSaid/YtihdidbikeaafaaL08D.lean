/- IsSmithProof of the program. -/
import Derived.Test.YtihdidbikeaafaaL08C
import Derived.Test.YtihdidbikeaafaaL07A
import Derived.Test.YtihdidbikeaafaaL06G
namespace Go.Proofs.Ytihdidbikeaafaa
open Go.RowKit
set_option linter.unusedVariables false
set_option linter.unusedSimpArgs false

theorem Tab.uni_out {x : Tab} (h : rIsUnimodular x = true) : x.ok = true ∧ (x.R.length : Int) = x.C := by
  have h0 : rDeterminantOf x ≠ 0 := fun e => by rw [Tab.uni_no e] at h; cases h
  cases hk : x.ok with
  | false => exact absurd (Tab.det_bad hk).1 h0
  | true =>
    refine ⟨rfl, ?_⟩
    by_cases hn : (x.R.length : Int) = x.C
    · exact hn
    · exact absurd (Tab.det_odd hk hn).1 h0
/-- The product of the three tables. -/
def prod3 (a u v : Tab) : List (List Int) := Num.mulZ a.C.toNat v.R.length (Num.mulZ a.C.toNat a.R.length u.R a.R) v.R
def rIsSmithProof (a u v : Tab) (d : List Int) : Bool :=
  a.ok && rIsUnimodular u && rIsUnimodular v && decide (u.C = (a.R.length : Int)) && decide (v.C = a.C) && Num.chainB d && decide (d.length ≤ a.R.length) && decide ((d.length : Int) ≤ a.C) && Num.diagB (prod3 a u v) d
theorem smith_no1 {a u v : Tab} {d : List Int} (h : a.ok = false) : rIsSmithProof a u v d = false := by unfold rIsSmithProof; simp [h]
theorem smith_no2 {a u v : Tab} {d : List Int} (h : rIsUnimodular u = false) : rIsSmithProof a u v d = false := by unfold rIsSmithProof; simp [h]
theorem smith_no3 {a u v : Tab} {d : List Int} (h : rIsUnimodular v = false) : rIsSmithProof a u v d = false := by unfold rIsSmithProof; simp [h]
theorem smith_no4 {a u v : Tab} {d : List Int} (h : ¬ u.C = (a.R.length : Int)) : rIsSmithProof a u v d = false := by unfold rIsSmithProof; simp [h]
theorem smith_no5 {a u v : Tab} {d : List Int} (h : ¬ v.C = a.C) : rIsSmithProof a u v d = false := by unfold rIsSmithProof; simp [h]
theorem smith_no6 {a u v : Tab} {d : List Int} (h : Num.chainB d = false) : rIsSmithProof a u v d = false := by unfold rIsSmithProof; simp [h]
theorem smith_no7 {a u v : Tab} {d : List Int} (h : ¬ d.length ≤ a.R.length) : rIsSmithProof a u v d = false := by unfold rIsSmithProof; rw [decide_eq_false h]; simp
theorem smith_no8 {a u v : Tab} {d : List Int} (h : ¬ (d.length : Int) ≤ a.C) : rIsSmithProof a u v d = false := by unfold rIsSmithProof; rw [decide_eq_false h]; simp
theorem smith_is {a u v : Tab} {d : List Int} (h1 : a.ok = true) (h2 : rIsUnimodular u = true) (h3 : rIsUnimodular v = true) (h4 : u.C = (a.R.length : Int)) (h5 : v.C = a.C) (h6 : Num.chainB d = true) (h7 : d.length ≤ a.R.length) (h8 : (d.length : Int) ≤ a.C) : rIsSmithProof a u v d = Num.diagB (prod3 a u v) d := by
  unfold rIsSmithProof
  rw [h1, h2, h3, h6, decide_eq_true h4, decide_eq_true h5, decide_eq_true h7, decide_eq_true h8]
  rfl
theorem small_bd {R : List (List Int)} (h : Num.Small R) (i : Nat) : Num.BdN 64 (R.getD i []) := fun j => by
  have := h.get i j
  omega
/-- What the two products want. -/
structure Three (a u v : Tab) : Prop where
  c0 : 1 ≤ a.C.toNat
  c1 : a.C.toNat ≤ 4
  ec : (a.C.toNat : Int) = a.C
  r0 : 0 < a.R.length
  r1 : a.R.length ≤ 4
  ul : u.R.length = a.R.length
  vl : v.R.length = a.C.toNat
  ur : ∀ i, i < u.R.length → (u.R.getD i []).length = a.R.length
  ar : ∀ i, i < a.R.length → (a.R.getD i []).length = a.C.toNat
  vr : ∀ i, i < v.R.length → (v.R.getD i []).length = a.C.toNat
  ub : ∀ i, Num.BdN 64 (u.R.getD i [])
  ab : ∀ i, Num.BdN 64 (a.R.getD i [])
  vb : ∀ i, Num.BdN 64 (v.R.getD i [])
theorem three_of {a u v : Tab} (h1 : a.ok = true) (h2 : rIsUnimodular u = true) (h3 : rIsUnimodular v = true) (h4 : u.C = (a.R.length : Int)) (h5 : v.C = a.C) : Three a u v := by
  obtain ⟨a1, a2, a3, a4, a5⟩ := Tab.ok_out h1
  obtain ⟨hu, eu⟩ := Tab.uni_out h2
  obtain ⟨hv, ev⟩ := Tab.uni_out h3
  obtain ⟨u1, u2, u3, u4, u5⟩ := Tab.ok_out hu
  obtain ⟨v1, v2, v3, v4, v5⟩ := Tab.ok_out hv
  exact ⟨by omega, by omega, by omega, by omega, by omega, by omega, by omega, fun i hi => by have := u5 i hi; omega, fun i hi => by have := a5 i hi; omega, fun i hi => by have := v5 i hi; omega, small_bd u4, small_bd a4, small_bd v4⟩
theorem Three.mid {a u v : Tab} (h : Three a u v) : (∀ i, i < (Num.mulZ a.C.toNat a.R.length u.R a.R).length → ((Num.mulZ a.C.toNat a.R.length u.R a.R).getD i []).length = v.R.length) ∧ (∀ i, Num.BdN 16384 ((Num.mulZ a.C.toNat a.R.length u.R a.R).getD i [])) ∧ (Num.mulZ a.C.toNat a.R.length u.R a.R).length = a.R.length := by
  have hl := Num.mulZ_len a.C.toNat a.R.length u.R a.R
  refine ⟨fun i hi => ?_, fun i j => ?_, by rw [hl, h.ul]⟩
  · rw [hl] at hi
    rw [Num.mulZ_get hi, Num.rowZ_len, h.vl]
  · by_cases hi : i < u.R.length
    · rw [Num.mulZ_get hi]
      have := Num.rowZ_bd (n := a.C.toNat) (h.ub i) h.ab a.R.length j
      have h2 : a.R.length * (64 * 64) ≤ 4 * (64 * 64) := Nat.mul_le_mul_right _ h.r1
      omega
    · have e : (Num.mulZ a.C.toNat a.R.length u.R a.R).getD i [] = [] := by rw [List.getD_eq_getElem?_getD, List.getElem?_eq_none (by rw [hl]; omega)]; rfl
      rw [e]
      simp
theorem Three.end_ {a u v : Tab} (h : Three a u v) : (prod3 a u v).length = a.R.length ∧ ∀ i, i < (prod3 a u v).length → ((prod3 a u v).getD i []).length = a.C.toNat := by
  have hl : (prod3 a u v).length = a.R.length := by unfold prod3; rw [Num.mulZ_len, Num.mulZ_len, h.ul]
  refine ⟨hl, fun i hi => ?_⟩
  unfold prod3 at hi ⊢
  rw [Num.mulZ_len] at hi
  rw [Num.mulZ_get hi, Num.rowZ_len]
theorem rd_copyZ {w : World} {v : Value} {X : List (List Int)} (h : spZZ.rd w v X) : ∃ A c, v = .slice A X.length c := by
  obtain ⟨A, c, e, -⟩ := h
  exact ⟨A, c, e⟩
set_option maxRecDepth 100000 in
set_option maxHeartbeats 4000000 in
theorem iIsSmithProof_any (v0 v1 v2 v3 : Value) (x0 x1 x2 : Tab) (x3 : List Int) (w : World) (h0 : spTab.rd w v0 x0) (h1 : spTab.rd w v1 x1) (h2 : spTab.rd w v2 x2) (h3 : spI.rd w v3 x3) : Calls Try.prog 18 #[v0, v1, v2, v3] w (RetB (rIsSmithProof x0 x1 x2 x3) w) := by
  obtain ⟨A0, n0, c0, rfl, r0⟩ := spTab_form (h0)
  obtain ⟨rfl, -, -, -⟩ := rdII_of r0
  obtain ⟨A1, n1, c1, rfl, r1⟩ := spTab_form (h1)
  obtain ⟨rfl, -, -, -⟩ := rdII_of r1
  obtain ⟨A2, n2, c2, rfl, r2⟩ := spTab_form (h2)
  obtain ⟨rfl, -, -, -⟩ := rdII_of r2
  obtain ⟨A3, c3, rfl, m3, hd3⟩ := h3
  have L : Below w.heap.size w (((w.alloc (.cells [.int .i64 x0.C, .slice A0 x0.R.length c0].toArray 28)).alloc (.cells [.int .i64 x1.C, .slice A1 x1.R.length c1].toArray 28)).alloc (.cells [.int .i64 x2.C, .slice A2 x2.R.length c2].toArray 28)) := by go_grown
  have B0 : Blk (((w.alloc (.cells [.int .i64 x0.C, .slice A0 x0.R.length c0].toArray 28)).alloc (.cells [.int .i64 x1.C, .slice A1 x1.R.length c1].toArray 28)).alloc (.cells [.int .i64 x2.C, .slice A2 x2.R.length c2].toArray 28)) w.heap.size [.int .i64 x0.C, .slice A0 x0.R.length c0] 28 := ((Blk.new w [.int .i64 x0.C, .slice A0 x0.R.length c0] _).alloc _).alloc _
  have B1 : Blk (((w.alloc (.cells [.int .i64 x0.C, .slice A0 x0.R.length c0].toArray 28)).alloc (.cells [.int .i64 x1.C, .slice A1 x1.R.length c1].toArray 28)).alloc (.cells [.int .i64 x2.C, .slice A2 x2.R.length c2].toArray 28)) (w.heap.size + 1) [.int .i64 x1.C, .slice A1 x1.R.length c1] 28 := by have := (Blk.new (w.alloc (.cells [.int .i64 x0.C, .slice A0 x0.R.length c0].toArray 28)) [.int .i64 x1.C, .slice A1 x1.R.length c1] 28).alloc (.cells [.int .i64 x2.C, .slice A2 x2.R.length c2].toArray 28); rwa [World.size_alloc] at this
  have B2 : Blk (((w.alloc (.cells [.int .i64 x0.C, .slice A0 x0.R.length c0].toArray 28)).alloc (.cells [.int .i64 x1.C, .slice A1 x1.R.length c1].toArray 28)).alloc (.cells [.int .i64 x2.C, .slice A2 x2.R.length c2].toArray 28)) (w.heap.size + 2) [.int .i64 x2.C, .slice A2 x2.R.length c2] 28 := by have := Blk.new ((w.alloc (.cells [.int .i64 x0.C, .slice A0 x0.R.length c0].toArray 28)).alloc (.cells [.int .i64 x1.C, .slice A1 x1.R.length c1].toArray 28)) [.int .i64 x2.C, .slice A2 x2.R.length c2] 28; rwa [World.size_alloc, World.size_alloc] at this
  have R0 := Lib.hid (spTab.rd_below h0 L)
  have R1 := Lib.hid (spTab.rd_below h1 L)
  have R2 := Lib.hid (spTab.rd_below h2 L)
  have HD : Hid (∀ W, Below w.heap.size w W → RdI W A3 x3) := Lib.hid fun W hW => hd3.below' hW
  have m3' := m3
  unfold maxLen at m3'
  have HM0 : x0.R.length ≤ maxLen := (rdII_of r0).2.1
  unfold maxLen at HM0
  clear h0 h1 h2 hd3 r0 r1 r2
  show Calls _ _ _ _ fun e w' => e = .returned (.bool (rIsSmithProof x0 x1 x2 x3)) ∧ Below w.heap.size w w'
  cases hk0 : x0.ok with
  | false =>
    have HE := Lib.hid (smith_no1 (u := x1) (v := x2) (d := x3) hk0)
    have HC0 : Hid (∀ W, spTab.rd W (.agg #[.int .i64 x0.C, .slice A0 x0.R.length c0]) x0 → Calls Try.prog 56 #[.agg #[.int .i64 x0.C, .slice A0 x0.R.length c0]] W (RetB false W)) := Lib.hid fun W hW => by have := isTab_any (.agg #[.int .i64 x0.C, .slice A0 x0.R.length c0]) x0 W hW; rwa [hk0] at this
    clear hk0
    obtain ⟨bl0, a00, a01⟩ := B0.c2
    obtain ⟨bl1, a10, a11⟩ := B1.c2
    obtain ⟨bl2, a20, a21⟩ := B2.c2
    go_enter Try.func18, Try.ntmps18
    go_wp2_with (fail)
    refine (HC0.out _ R0.out).mono ?_; rintro e w1 ⟨rfl, hb⟩
    replace L := bstep L L.size hb
    replace B0 := B0.below hb
    replace B1 := B1.below hb
    replace B2 := B2.below hb
    replace R0 := Lib.hid (spTab.rd_below R0.out hb)
    replace R1 := Lib.hid (spTab.rd_below R1.out hb)
    replace R2 := Lib.hid (spTab.rd_below R2.out hb)
    clear a00 a01 a10 a11 a20 a21 bl0 bl1 bl2
    clear HC0 hb
    obtain ⟨bl0, a00, a01⟩ := B0.c2
    obtain ⟨bl1, a10, a11⟩ := B1.c2
    obtain ⟨bl2, a20, a21⟩ := B2.c2
    go_wp2_with (fail)
    go_ret
    exact ⟨ret_b HE.out.symm, L⟩
  | true =>
    have HC0 : Hid (∀ W, spTab.rd W (.agg #[.int .i64 x0.C, .slice A0 x0.R.length c0]) x0 → Calls Try.prog 56 #[.agg #[.int .i64 x0.C, .slice A0 x0.R.length c0]] W (RetB true W)) := Lib.hid fun W hW => by have := isTab_any (.agg #[.int .i64 x0.C, .slice A0 x0.R.length c0]) x0 W hW; rwa [hk0] at this
    cases hk1 : rIsUnimodular x1 with
    | false =>
      have HE := Lib.hid (smith_no2 (a := x0) (v := x2) (d := x3) hk1)
      have HC1 : Hid (∀ W, spTab.rd W (.agg #[.int .i64 x1.C, .slice A1 x1.R.length c1]) x1 → Calls Try.prog 57 #[.agg #[.int .i64 x1.C, .slice A1 x1.R.length c1]] W (RetB false W)) := Lib.hid fun W hW => by have := iIsUnimodular_any (.agg #[.int .i64 x1.C, .slice A1 x1.R.length c1]) x1 W hW; rwa [hk1] at this
      clear hk0 hk1
      obtain ⟨bl0, a00, a01⟩ := B0.c2
      obtain ⟨bl1, a10, a11⟩ := B1.c2
      obtain ⟨bl2, a20, a21⟩ := B2.c2
      go_enter Try.func18, Try.ntmps18
      go_wp2_with (fail)
      refine (HC0.out _ R0.out).mono ?_; rintro e w1 ⟨rfl, hb⟩
      replace L := bstep L L.size hb
      replace B0 := B0.below hb
      replace B1 := B1.below hb
      replace B2 := B2.below hb
      replace R0 := Lib.hid (spTab.rd_below R0.out hb)
      replace R1 := Lib.hid (spTab.rd_below R1.out hb)
      replace R2 := Lib.hid (spTab.rd_below R2.out hb)
      clear a00 a01 a10 a11 a20 a21 bl0 bl1 bl2
      clear HC0 hb
      obtain ⟨bl0, a00, a01⟩ := B0.c2
      obtain ⟨bl1, a10, a11⟩ := B1.c2
      obtain ⟨bl2, a20, a21⟩ := B2.c2
      go_wp2_with (fail)
      refine (HC1.out _ R1.out).mono ?_; rintro e w2 ⟨rfl, hb⟩
      replace L := bstep L L.size hb
      replace B0 := B0.below hb
      replace B1 := B1.below hb
      replace B2 := B2.below hb
      replace R0 := Lib.hid (spTab.rd_below R0.out hb)
      replace R1 := Lib.hid (spTab.rd_below R1.out hb)
      replace R2 := Lib.hid (spTab.rd_below R2.out hb)
      clear a00 a01 a10 a11 a20 a21 bl0 bl1 bl2
      clear HC1 hb
      obtain ⟨bl0, a00, a01⟩ := B0.c2
      obtain ⟨bl1, a10, a11⟩ := B1.c2
      obtain ⟨bl2, a20, a21⟩ := B2.c2
      go_wp2_with (fail)
      go_ret
      exact ⟨ret_b HE.out.symm, L⟩
    | true =>
      have HC1 : Hid (∀ W, spTab.rd W (.agg #[.int .i64 x1.C, .slice A1 x1.R.length c1]) x1 → Calls Try.prog 57 #[.agg #[.int .i64 x1.C, .slice A1 x1.R.length c1]] W (RetB true W)) := Lib.hid fun W hW => by have := iIsUnimodular_any (.agg #[.int .i64 x1.C, .slice A1 x1.R.length c1]) x1 W hW; rwa [hk1] at this
      cases hk2 : rIsUnimodular x2 with
      | false =>
        have HE := Lib.hid (smith_no3 (a := x0) (u := x1) (d := x3) hk2)
        have HC2 : Hid (∀ W, spTab.rd W (.agg #[.int .i64 x2.C, .slice A2 x2.R.length c2]) x2 → Calls Try.prog 57 #[.agg #[.int .i64 x2.C, .slice A2 x2.R.length c2]] W (RetB false W)) := Lib.hid fun W hW => by have := iIsUnimodular_any (.agg #[.int .i64 x2.C, .slice A2 x2.R.length c2]) x2 W hW; rwa [hk2] at this
        clear hk0 hk1 hk2
        obtain ⟨bl0, a00, a01⟩ := B0.c2
        obtain ⟨bl1, a10, a11⟩ := B1.c2
        obtain ⟨bl2, a20, a21⟩ := B2.c2
        go_enter Try.func18, Try.ntmps18
        go_wp2_with (fail)
        refine (HC0.out _ R0.out).mono ?_; rintro e w1 ⟨rfl, hb⟩
        replace L := bstep L L.size hb
        replace B0 := B0.below hb
        replace B1 := B1.below hb
        replace B2 := B2.below hb
        replace R0 := Lib.hid (spTab.rd_below R0.out hb)
        replace R1 := Lib.hid (spTab.rd_below R1.out hb)
        replace R2 := Lib.hid (spTab.rd_below R2.out hb)
        clear a00 a01 a10 a11 a20 a21 bl0 bl1 bl2
        clear HC0 hb
        obtain ⟨bl0, a00, a01⟩ := B0.c2
        obtain ⟨bl1, a10, a11⟩ := B1.c2
        obtain ⟨bl2, a20, a21⟩ := B2.c2
        go_wp2_with (fail)
        refine (HC1.out _ R1.out).mono ?_; rintro e w2 ⟨rfl, hb⟩
        replace L := bstep L L.size hb
        replace B0 := B0.below hb
        replace B1 := B1.below hb
        replace B2 := B2.below hb
        replace R0 := Lib.hid (spTab.rd_below R0.out hb)
        replace R1 := Lib.hid (spTab.rd_below R1.out hb)
        replace R2 := Lib.hid (spTab.rd_below R2.out hb)
        clear a00 a01 a10 a11 a20 a21 bl0 bl1 bl2
        clear HC1 hb
        obtain ⟨bl0, a00, a01⟩ := B0.c2
        obtain ⟨bl1, a10, a11⟩ := B1.c2
        obtain ⟨bl2, a20, a21⟩ := B2.c2
        go_wp2_with (fail)
        refine (HC2.out _ R2.out).mono ?_; rintro e w3 ⟨rfl, hb⟩
        replace L := bstep L L.size hb
        replace B0 := B0.below hb
        replace B1 := B1.below hb
        replace B2 := B2.below hb
        replace R0 := Lib.hid (spTab.rd_below R0.out hb)
        replace R1 := Lib.hid (spTab.rd_below R1.out hb)
        replace R2 := Lib.hid (spTab.rd_below R2.out hb)
        clear a00 a01 a10 a11 a20 a21 bl0 bl1 bl2
        clear HC2 hb
        obtain ⟨bl0, a00, a01⟩ := B0.c2
        obtain ⟨bl1, a10, a11⟩ := B1.c2
        obtain ⟨bl2, a20, a21⟩ := B2.c2
        go_wp2_with (fail)
        go_ret
        exact ⟨ret_b HE.out.symm, L⟩
      | true =>
        have HC2 : Hid (∀ W, spTab.rd W (.agg #[.int .i64 x2.C, .slice A2 x2.R.length c2]) x2 → Calls Try.prog 57 #[.agg #[.int .i64 x2.C, .slice A2 x2.R.length c2]] W (RetB true W)) := Lib.hid fun W hW => by have := iIsUnimodular_any (.agg #[.int .i64 x2.C, .slice A2 x2.R.length c2]) x2 W hW; rwa [hk2] at this
        by_cases hc4 : x1.C = (x0.R.length : Int)
        · have T4 : (x1.C != (x0.R.length : Int)) = false := bne_eq_false_iff_eq.mpr hc4
          by_cases hc5 : x2.C = x0.C
          · have T5 : (x2.C != x0.C) = false := bne_eq_false_iff_eq.mpr hc5
            have HC6 : Hid (∀ W, Below w.heap.size w W → Calls Try.prog 58 #[.slice A3 x3.length c3] W fun e w' => e = .returned (.bool (Num.chainB x3)) ∧ W = w') := Lib.hid fun W hW => chain_any A3 c3 x3 W (HD.out W hW) m3
            cases hk6 : Num.chainB x3 with
            | false =>
              have HE := Lib.hid (smith_no6 (a := x0) (u := x1) (v := x2) hk6)
              rw [hk6] at HC6
              have HC4 := Lib.hid hc4
              have HC5 := Lib.hid hc5
              clear hk0 hk1 hk2 hk6 hc4 hc5
              obtain ⟨bl0, a00, a01⟩ := B0.c2
              obtain ⟨bl1, a10, a11⟩ := B1.c2
              obtain ⟨bl2, a20, a21⟩ := B2.c2
              go_enter Try.func18, Try.ntmps18
              go_wp2_with (fail)
              refine (HC0.out _ R0.out).mono ?_; rintro e w1 ⟨rfl, hb⟩
              replace L := bstep L L.size hb
              replace B0 := B0.below hb
              replace B1 := B1.below hb
              replace B2 := B2.below hb
              replace R0 := Lib.hid (spTab.rd_below R0.out hb)
              replace R1 := Lib.hid (spTab.rd_below R1.out hb)
              replace R2 := Lib.hid (spTab.rd_below R2.out hb)
              clear a00 a01 a10 a11 a20 a21 bl0 bl1 bl2
              clear HC0 hb
              obtain ⟨bl0, a00, a01⟩ := B0.c2
              obtain ⟨bl1, a10, a11⟩ := B1.c2
              obtain ⟨bl2, a20, a21⟩ := B2.c2
              go_wp2_with (fail)
              refine (HC1.out _ R1.out).mono ?_; rintro e w2 ⟨rfl, hb⟩
              replace L := bstep L L.size hb
              replace B0 := B0.below hb
              replace B1 := B1.below hb
              replace B2 := B2.below hb
              replace R0 := Lib.hid (spTab.rd_below R0.out hb)
              replace R1 := Lib.hid (spTab.rd_below R1.out hb)
              replace R2 := Lib.hid (spTab.rd_below R2.out hb)
              clear a00 a01 a10 a11 a20 a21 bl0 bl1 bl2
              clear HC1 hb
              obtain ⟨bl0, a00, a01⟩ := B0.c2
              obtain ⟨bl1, a10, a11⟩ := B1.c2
              obtain ⟨bl2, a20, a21⟩ := B2.c2
              go_wp2_with (fail)
              refine (HC2.out _ R2.out).mono ?_; rintro e w3 ⟨rfl, hb⟩
              replace L := bstep L L.size hb
              replace B0 := B0.below hb
              replace B1 := B1.below hb
              replace B2 := B2.below hb
              replace R0 := Lib.hid (spTab.rd_below R0.out hb)
              replace R1 := Lib.hid (spTab.rd_below R1.out hb)
              replace R2 := Lib.hid (spTab.rd_below R2.out hb)
              clear a00 a01 a10 a11 a20 a21 bl0 bl1 bl2
              clear HC2 hb
              obtain ⟨bl0, a00, a01⟩ := B0.c2
              obtain ⟨bl1, a10, a11⟩ := B1.c2
              obtain ⟨bl2, a20, a21⟩ := B2.c2
              go_wp2_with (fail)
              refine (HC6.out _ L).mono ?_; rintro e w' ⟨rfl, rfl⟩
              clear HC6
              go_wp2_with (fail)
              go_ret
              exact ⟨ret_b HE.out.symm, L⟩
            | true =>
              rw [hk6] at HC6
              by_cases hc7 : x3.length ≤ x0.R.length
              · by_cases hc8 : (x3.length : Int) ≤ x0.C
                · have T3 := three_of hk0 hk1 hk2 hc4 hc5
                  have HE := Lib.hid (smith_is hk0 hk1 hk2 hc4 hc5 hk6 hc7 hc8)
                  have l7 : ¬ ((x0.R.length : Int) < (x3.length : Int)) := by omega
                  have l8 : ¬ (x0.C < (x3.length : Int)) := by omega
                  rw [HE.out]
                  have T3' := Lib.hid T3
                  have HL8 := Lib.hid hc8
                  clear hk0 hk1 hk2 hk6 hc4 hc5 hc8 HE T3
                  have HK0 : Hid (∀ W, spTab.rd W (.agg #[.int .i64 x0.C, .slice A0 x0.R.length c0]) x0 → Calls Try.prog 60 #[.agg #[.int .i64 x0.C, .slice A0 x0.R.length c0]] W (Made spZZ x0.R W)) := Lib.hid fun W hW => copyOf_any _ x0 W hW (by have := T3'.out.r1; omega) (fun j hj => by have := T3'.out.ar j hj; have := T3'.out.c1; omega)
                  have HK1 : Hid (∀ W, spTab.rd W (.agg #[.int .i64 x1.C, .slice A1 x1.R.length c1]) x1 → Calls Try.prog 60 #[.agg #[.int .i64 x1.C, .slice A1 x1.R.length c1]] W (Made spZZ x1.R W)) := Lib.hid fun W hW => copyOf_any _ x1 W hW (by have := T3'.out.r1; have := T3'.out.ul; omega) (fun j hj => by have := T3'.out.ur j hj; have := T3'.out.r1; omega)
                  have HK2 : Hid (∀ W, spTab.rd W (.agg #[.int .i64 x2.C, .slice A2 x2.R.length c2]) x2 → Calls Try.prog 60 #[.agg #[.int .i64 x2.C, .slice A2 x2.R.length c2]] W (Made spZZ x2.R W)) := Lib.hid fun W hW => copyOf_any _ x2 W hW (by have := T3'.out.c1; have := T3'.out.vl; omega) (fun j hj => by have := T3'.out.vr j hj; have := T3'.out.c1; omega)
                  have HP1 : Hid (∀ W v u, spZZ.rd W v x1.R → spZZ.rd W u x0.R → Calls Try.prog 59 #[v, u] W (Made spZZ (Num.mulZ x0.C.toNat x0.R.length x1.R x0.R) W)) := Lib.hid fun W v u hv hu => by
                    have t := T3'.out
                    exact integerProduct_any x0.C.toNat 64 64 v u x1.R x0.R W hv hu (by have := t.c1; omega) t.r0 (by have := t.r1; omega) (by have := t.r1; have := t.ul; omega) t.ur t.ar t.ub t.ab (by decide)
                  have HP2 : Hid (∀ W v u, spZZ.rd W v (Num.mulZ x0.C.toNat x0.R.length x1.R x0.R) → spZZ.rd W u x2.R → Calls Try.prog 59 #[v, u] W (Made spZZ (prod3 x0 x1 x2) W)) := Lib.hid fun W v u hv hu => by
                    have t := T3'.out
                    obtain ⟨m1, m2, m3⟩ := t.mid
                    exact integerProduct_any x0.C.toNat 16384 64 v u _ x2.R W hv hu (by have := t.c1; omega) (by have := t.c0; have := t.vl; omega) (by have := t.c1; have := t.vl; omega) (by have := t.r1; omega) m1 t.vr m2 t.vb (by decide)
                  have HDG : Hid (∀ W v u, spZZ.rd W v (prod3 x0 x1 x2) → spI.rd W u x3 → Calls Try.prog 61 #[v, u] W (RetB (Num.diagB (prod3 x0 x1 x2) x3) W)) := Lib.hid fun W v u hv hu => by
                    have t := T3'.out
                    obtain ⟨e1, e2⟩ := t.end_
                    exact isDiagonal_any v u _ x3 W hv hu (by have := t.r1; omega) (fun i hi => by have := e2 i hi; have := t.ec; have := HL8.out; omega) (fun i hi => by have := e2 i hi; have := t.c1; omega)
                  generalize Num.mulZ x0.C.toNat x0.R.length x1.R x0.R = MID at *
                  generalize prod3 x0 x1 x2 = END at *
                  clear T3'
                  obtain ⟨bl0, a00, a01⟩ := B0.c2
                  obtain ⟨bl1, a10, a11⟩ := B1.c2
                  obtain ⟨bl2, a20, a21⟩ := B2.c2
                  go_enter Try.func18, Try.ntmps18
                  go_wp2_with (fail)
                  refine (HC0.out _ R0.out).mono ?_; rintro e w1 ⟨rfl, hb⟩
                  replace L := bstep L L.size hb
                  replace B0 := B0.below hb
                  replace B1 := B1.below hb
                  replace B2 := B2.below hb
                  replace R0 := Lib.hid (spTab.rd_below R0.out hb)
                  replace R1 := Lib.hid (spTab.rd_below R1.out hb)
                  replace R2 := Lib.hid (spTab.rd_below R2.out hb)
                  clear a00 a01 a10 a11 a20 a21 bl0 bl1 bl2
                  clear HC0 hb
                  obtain ⟨bl0, a00, a01⟩ := B0.c2
                  obtain ⟨bl1, a10, a11⟩ := B1.c2
                  obtain ⟨bl2, a20, a21⟩ := B2.c2
                  go_wp2_with (fail)
                  refine (HC1.out _ R1.out).mono ?_; rintro e w2 ⟨rfl, hb⟩
                  replace L := bstep L L.size hb
                  replace B0 := B0.below hb
                  replace B1 := B1.below hb
                  replace B2 := B2.below hb
                  replace R0 := Lib.hid (spTab.rd_below R0.out hb)
                  replace R1 := Lib.hid (spTab.rd_below R1.out hb)
                  replace R2 := Lib.hid (spTab.rd_below R2.out hb)
                  clear a00 a01 a10 a11 a20 a21 bl0 bl1 bl2
                  clear HC1 hb
                  obtain ⟨bl0, a00, a01⟩ := B0.c2
                  obtain ⟨bl1, a10, a11⟩ := B1.c2
                  obtain ⟨bl2, a20, a21⟩ := B2.c2
                  go_wp2_with (fail)
                  refine (HC2.out _ R2.out).mono ?_; rintro e w3 ⟨rfl, hb⟩
                  replace L := bstep L L.size hb
                  replace B0 := B0.below hb
                  replace B1 := B1.below hb
                  replace B2 := B2.below hb
                  replace R0 := Lib.hid (spTab.rd_below R0.out hb)
                  replace R1 := Lib.hid (spTab.rd_below R1.out hb)
                  replace R2 := Lib.hid (spTab.rd_below R2.out hb)
                  clear a00 a01 a10 a11 a20 a21 bl0 bl1 bl2
                  clear HC2 hb
                  obtain ⟨bl0, a00, a01⟩ := B0.c2
                  obtain ⟨bl1, a10, a11⟩ := B1.c2
                  obtain ⟨bl2, a20, a21⟩ := B2.c2
                  go_wp2_with (fail)
                  refine (HC6.out _ L).mono ?_; rintro e w' ⟨rfl, rfl⟩
                  clear HC6
                  have LC0 : Below w3.heap.size w3 w3.drew := (Below.refl _ _).drew
                  go_wp2_with (fail)
                  go_region_held3 (fun wx => wx.cell? ⟨w.heap.size, 0, none⟩ = some (.int .i64 x0.C) ∧ wx.cell? ⟨w.heap.size, 1, none⟩ = some (.slice A0 x0.R.length c0) ∧ wx.cell? ⟨(w.heap.size + 1), 0, none⟩ = some (.int .i64 x1.C) ∧ wx.cell? ⟨(w.heap.size + 1), 1, none⟩ = some (.slice A1 x1.R.length c1) ∧ wx.cell? ⟨(w.heap.size + 2), 0, none⟩ = some (.int .i64 x2.C) ∧ wx.cell? ⟨(w.heap.size + 2), 1, none⟩ = some (.slice A2 x2.R.length c2)) (first | assumption | go_keep) (first
                    | (go_at_call 60; (with_reducible refine (HK1.out _ (spTab.rd_below R1.out LC0)).mono ?_); rintro e w4 ⟨u4, Sw4, rfl, oww4, -, hbw4⟩; have LC1 := bstep LC0 LC0.size hbw4; have SMw4 : w4.cell? ⟨w.heap.size, 0, none⟩ = some (.int .i64 x0.C) ∧ w4.cell? ⟨w.heap.size, 1, none⟩ = some (.slice A0 x0.R.length c0) ∧ w4.cell? ⟨(w.heap.size + 1), 0, none⟩ = some (.int .i64 x1.C) ∧ w4.cell? ⟨(w.heap.size + 1), 1, none⟩ = some (.slice A1 x1.R.length c1) ∧ w4.cell? ⟨(w.heap.size + 2), 0, none⟩ = some (.int .i64 x2.C) ∧ w4.cell? ⟨(w.heap.size + 2), 1, none⟩ = some (.slice A2 x2.R.length c2) := ⟨(Blk.cell (B0.below LC1) 0 (by simp)), (Blk.cell (B0.below LC1) 1 (by simp)), (Blk.cell (B1.below LC1) 0 (by simp)), (Blk.cell (B1.below LC1) 1 (by simp)), (Blk.cell (B2.below LC1) 0 (by simp)), (Blk.cell (B2.below LC1) 1 (by simp))⟩)
                    | (go_at_call 60; (with_reducible refine (HK0.out _ (spTab.rd_below R0.out LC1)).mono ?_); rintro e w5 ⟨u5, Sw5, rfl, oww5, -, hbw5⟩; have LC2 := bstep LC1 LC1.size hbw5; have SMw5 : w5.cell? ⟨w.heap.size, 0, none⟩ = some (.int .i64 x0.C) ∧ w5.cell? ⟨w.heap.size, 1, none⟩ = some (.slice A0 x0.R.length c0) ∧ w5.cell? ⟨(w.heap.size + 1), 0, none⟩ = some (.int .i64 x1.C) ∧ w5.cell? ⟨(w.heap.size + 1), 1, none⟩ = some (.slice A1 x1.R.length c1) ∧ w5.cell? ⟨(w.heap.size + 2), 0, none⟩ = some (.int .i64 x2.C) ∧ w5.cell? ⟨(w.heap.size + 2), 1, none⟩ = some (.slice A2 x2.R.length c2) := ⟨(Blk.cell (B0.below LC2) 0 (by simp)), (Blk.cell (B0.below LC2) 1 (by simp)), (Blk.cell (B1.below LC2) 0 (by simp)), (Blk.cell (B1.below LC2) 1 (by simp)), (Blk.cell (B2.below LC2) 0 (by simp)), (Blk.cell (B2.below LC2) 1 (by simp))⟩)
                    | (go_at_call 59; (with_reducible refine (HP1.out _ _ _ (spZZ.rd_below (spZZ.own_rd oww4) hbw5) (spZZ.own_rd oww5)).mono ?_); rintro e w6 ⟨u6, Sw6, rfl, oww6, -, hbw6⟩; have LC3 := bstep LC2 LC2.size hbw6; have SMw6 : w6.cell? ⟨w.heap.size, 0, none⟩ = some (.int .i64 x0.C) ∧ w6.cell? ⟨w.heap.size, 1, none⟩ = some (.slice A0 x0.R.length c0) ∧ w6.cell? ⟨(w.heap.size + 1), 0, none⟩ = some (.int .i64 x1.C) ∧ w6.cell? ⟨(w.heap.size + 1), 1, none⟩ = some (.slice A1 x1.R.length c1) ∧ w6.cell? ⟨(w.heap.size + 2), 0, none⟩ = some (.int .i64 x2.C) ∧ w6.cell? ⟨(w.heap.size + 2), 1, none⟩ = some (.slice A2 x2.R.length c2) := ⟨(Blk.cell (B0.below LC3) 0 (by simp)), (Blk.cell (B0.below LC3) 1 (by simp)), (Blk.cell (B1.below LC3) 0 (by simp)), (Blk.cell (B1.below LC3) 1 (by simp)), (Blk.cell (B2.below LC3) 0 (by simp)), (Blk.cell (B2.below LC3) 1 (by simp))⟩)
                    | (go_at_call 60; (with_reducible refine (HK2.out _ (spTab.rd_below R2.out LC3)).mono ?_); rintro e w7 ⟨u7, Sw7, rfl, oww7, -, hbw7⟩; have LC4 := bstep LC3 LC3.size hbw7; have SMw7 : w7.cell? ⟨w.heap.size, 0, none⟩ = some (.int .i64 x0.C) ∧ w7.cell? ⟨w.heap.size, 1, none⟩ = some (.slice A0 x0.R.length c0) ∧ w7.cell? ⟨(w.heap.size + 1), 0, none⟩ = some (.int .i64 x1.C) ∧ w7.cell? ⟨(w.heap.size + 1), 1, none⟩ = some (.slice A1 x1.R.length c1) ∧ w7.cell? ⟨(w.heap.size + 2), 0, none⟩ = some (.int .i64 x2.C) ∧ w7.cell? ⟨(w.heap.size + 2), 1, none⟩ = some (.slice A2 x2.R.length c2) := ⟨(Blk.cell (B0.below LC4) 0 (by simp)), (Blk.cell (B0.below LC4) 1 (by simp)), (Blk.cell (B1.below LC4) 0 (by simp)), (Blk.cell (B1.below LC4) 1 (by simp)), (Blk.cell (B2.below LC4) 0 (by simp)), (Blk.cell (B2.below LC4) 1 (by simp))⟩)
                    | (go_at_call 59; (with_reducible refine (HP2.out _ _ _ (spZZ.rd_below (spZZ.own_rd oww6) hbw7) (spZZ.own_rd oww7)).mono ?_); rintro e w8 ⟨u8, Sw8, rfl, oww8, -, hbw8⟩; have LC5 := bstep LC4 LC4.size hbw8; have SMw8 : w8.cell? ⟨w.heap.size, 0, none⟩ = some (.int .i64 x0.C) ∧ w8.cell? ⟨w.heap.size, 1, none⟩ = some (.slice A0 x0.R.length c0) ∧ w8.cell? ⟨(w.heap.size + 1), 0, none⟩ = some (.int .i64 x1.C) ∧ w8.cell? ⟨(w.heap.size + 1), 1, none⟩ = some (.slice A1 x1.R.length c1) ∧ w8.cell? ⟨(w.heap.size + 2), 0, none⟩ = some (.int .i64 x2.C) ∧ w8.cell? ⟨(w.heap.size + 2), 1, none⟩ = some (.slice A2 x2.R.length c2) := ⟨(Blk.cell (B0.below LC5) 0 (by simp)), (Blk.cell (B0.below LC5) 1 (by simp)), (Blk.cell (B1.below LC5) 0 (by simp)), (Blk.cell (B1.below LC5) 1 (by simp)), (Blk.cell (B2.below LC5) 0 (by simp)), (Blk.cell (B2.below LC5) 1 (by simp))⟩))
                  all_goals
                    have LZ := bstep L L.size LC5
                    have HG8 := Lib.hid (HDG.out w8 u8 (.slice A3 x3.length c3) (spZZ.own_rd oww8) ⟨A3, c3, rfl, m3, HD.out _ LZ⟩)
                    clear a00 a01 a10 a11 a20 a21 bl0 bl1 bl2
                    clear SMw4 SMw5 SMw6 SMw7 SMw8 oww4 oww5 oww6 oww7 oww8
                    go_wp2_with (fail)
                    refine HG8.out.mono ?_; rintro e w9 ⟨rfl, hb9⟩
                    have LY := bstep LZ LZ.size hb9
                    clear HG8
                    go_wp2_with (fail)
                    go_ret
                    exact ⟨rfl, LY⟩
                · have HE := Lib.hid (smith_no8 (a := x0) (u := x1) (v := x2) hc8)
                  have l7 : ¬ ((x0.R.length : Int) < (x3.length : Int)) := by omega
                  have l8 : x0.C < (x3.length : Int) := by omega
                  clear hk0 hk1 hk2 hk6 hc4 hc5 hc8
                  obtain ⟨bl0, a00, a01⟩ := B0.c2
                  obtain ⟨bl1, a10, a11⟩ := B1.c2
                  obtain ⟨bl2, a20, a21⟩ := B2.c2
                  go_enter Try.func18, Try.ntmps18
                  go_wp2_with (fail)
                  refine (HC0.out _ R0.out).mono ?_; rintro e w1 ⟨rfl, hb⟩
                  replace L := bstep L L.size hb
                  replace B0 := B0.below hb
                  replace B1 := B1.below hb
                  replace B2 := B2.below hb
                  replace R0 := Lib.hid (spTab.rd_below R0.out hb)
                  replace R1 := Lib.hid (spTab.rd_below R1.out hb)
                  replace R2 := Lib.hid (spTab.rd_below R2.out hb)
                  clear a00 a01 a10 a11 a20 a21 bl0 bl1 bl2
                  clear HC0 hb
                  obtain ⟨bl0, a00, a01⟩ := B0.c2
                  obtain ⟨bl1, a10, a11⟩ := B1.c2
                  obtain ⟨bl2, a20, a21⟩ := B2.c2
                  go_wp2_with (fail)
                  refine (HC1.out _ R1.out).mono ?_; rintro e w2 ⟨rfl, hb⟩
                  replace L := bstep L L.size hb
                  replace B0 := B0.below hb
                  replace B1 := B1.below hb
                  replace B2 := B2.below hb
                  replace R0 := Lib.hid (spTab.rd_below R0.out hb)
                  replace R1 := Lib.hid (spTab.rd_below R1.out hb)
                  replace R2 := Lib.hid (spTab.rd_below R2.out hb)
                  clear a00 a01 a10 a11 a20 a21 bl0 bl1 bl2
                  clear HC1 hb
                  obtain ⟨bl0, a00, a01⟩ := B0.c2
                  obtain ⟨bl1, a10, a11⟩ := B1.c2
                  obtain ⟨bl2, a20, a21⟩ := B2.c2
                  go_wp2_with (fail)
                  refine (HC2.out _ R2.out).mono ?_; rintro e w3 ⟨rfl, hb⟩
                  replace L := bstep L L.size hb
                  replace B0 := B0.below hb
                  replace B1 := B1.below hb
                  replace B2 := B2.below hb
                  replace R0 := Lib.hid (spTab.rd_below R0.out hb)
                  replace R1 := Lib.hid (spTab.rd_below R1.out hb)
                  replace R2 := Lib.hid (spTab.rd_below R2.out hb)
                  clear a00 a01 a10 a11 a20 a21 bl0 bl1 bl2
                  clear HC2 hb
                  obtain ⟨bl0, a00, a01⟩ := B0.c2
                  obtain ⟨bl1, a10, a11⟩ := B1.c2
                  obtain ⟨bl2, a20, a21⟩ := B2.c2
                  go_wp2_with (fail)
                  refine (HC6.out _ L).mono ?_; rintro e w' ⟨rfl, rfl⟩
                  clear HC6
                  go_wp2_with (fail)
                  go_ret
                  exact ⟨ret_b HE.out.symm, L⟩
              · have HE := Lib.hid (smith_no7 (a := x0) (u := x1) (v := x2) hc7)
                have l7 : (x0.R.length : Int) < (x3.length : Int) := by omega
                clear hk0 hk1 hk2 hk6 hc4 hc5
                obtain ⟨bl0, a00, a01⟩ := B0.c2
                obtain ⟨bl1, a10, a11⟩ := B1.c2
                obtain ⟨bl2, a20, a21⟩ := B2.c2
                go_enter Try.func18, Try.ntmps18
                go_wp2_with (fail)
                refine (HC0.out _ R0.out).mono ?_; rintro e w1 ⟨rfl, hb⟩
                replace L := bstep L L.size hb
                replace B0 := B0.below hb
                replace B1 := B1.below hb
                replace B2 := B2.below hb
                replace R0 := Lib.hid (spTab.rd_below R0.out hb)
                replace R1 := Lib.hid (spTab.rd_below R1.out hb)
                replace R2 := Lib.hid (spTab.rd_below R2.out hb)
                clear a00 a01 a10 a11 a20 a21 bl0 bl1 bl2
                clear HC0 hb
                obtain ⟨bl0, a00, a01⟩ := B0.c2
                obtain ⟨bl1, a10, a11⟩ := B1.c2
                obtain ⟨bl2, a20, a21⟩ := B2.c2
                go_wp2_with (fail)
                refine (HC1.out _ R1.out).mono ?_; rintro e w2 ⟨rfl, hb⟩
                replace L := bstep L L.size hb
                replace B0 := B0.below hb
                replace B1 := B1.below hb
                replace B2 := B2.below hb
                replace R0 := Lib.hid (spTab.rd_below R0.out hb)
                replace R1 := Lib.hid (spTab.rd_below R1.out hb)
                replace R2 := Lib.hid (spTab.rd_below R2.out hb)
                clear a00 a01 a10 a11 a20 a21 bl0 bl1 bl2
                clear HC1 hb
                obtain ⟨bl0, a00, a01⟩ := B0.c2
                obtain ⟨bl1, a10, a11⟩ := B1.c2
                obtain ⟨bl2, a20, a21⟩ := B2.c2
                go_wp2_with (fail)
                refine (HC2.out _ R2.out).mono ?_; rintro e w3 ⟨rfl, hb⟩
                replace L := bstep L L.size hb
                replace B0 := B0.below hb
                replace B1 := B1.below hb
                replace B2 := B2.below hb
                replace R0 := Lib.hid (spTab.rd_below R0.out hb)
                replace R1 := Lib.hid (spTab.rd_below R1.out hb)
                replace R2 := Lib.hid (spTab.rd_below R2.out hb)
                clear a00 a01 a10 a11 a20 a21 bl0 bl1 bl2
                clear HC2 hb
                obtain ⟨bl0, a00, a01⟩ := B0.c2
                obtain ⟨bl1, a10, a11⟩ := B1.c2
                obtain ⟨bl2, a20, a21⟩ := B2.c2
                go_wp2_with (fail)
                refine (HC6.out _ L).mono ?_; rintro e w' ⟨rfl, rfl⟩
                clear HC6
                go_wp2_with (fail)
                go_ret
                exact ⟨ret_b HE.out.symm, L⟩
          · have HE := Lib.hid (smith_no5 (u := x1) (d := x3) hc5)
            have T5 : (x2.C != x0.C) = true := bne_iff_ne.mpr hc5
            clear hk0 hk1 hk2 hc4 hc5
            obtain ⟨bl0, a00, a01⟩ := B0.c2
            obtain ⟨bl1, a10, a11⟩ := B1.c2
            obtain ⟨bl2, a20, a21⟩ := B2.c2
            go_enter Try.func18, Try.ntmps18
            go_wp2_with (fail)
            refine (HC0.out _ R0.out).mono ?_; rintro e w1 ⟨rfl, hb⟩
            replace L := bstep L L.size hb
            replace B0 := B0.below hb
            replace B1 := B1.below hb
            replace B2 := B2.below hb
            replace R0 := Lib.hid (spTab.rd_below R0.out hb)
            replace R1 := Lib.hid (spTab.rd_below R1.out hb)
            replace R2 := Lib.hid (spTab.rd_below R2.out hb)
            clear a00 a01 a10 a11 a20 a21 bl0 bl1 bl2
            clear HC0 hb
            obtain ⟨bl0, a00, a01⟩ := B0.c2
            obtain ⟨bl1, a10, a11⟩ := B1.c2
            obtain ⟨bl2, a20, a21⟩ := B2.c2
            go_wp2_with (fail)
            refine (HC1.out _ R1.out).mono ?_; rintro e w2 ⟨rfl, hb⟩
            replace L := bstep L L.size hb
            replace B0 := B0.below hb
            replace B1 := B1.below hb
            replace B2 := B2.below hb
            replace R0 := Lib.hid (spTab.rd_below R0.out hb)
            replace R1 := Lib.hid (spTab.rd_below R1.out hb)
            replace R2 := Lib.hid (spTab.rd_below R2.out hb)
            clear a00 a01 a10 a11 a20 a21 bl0 bl1 bl2
            clear HC1 hb
            obtain ⟨bl0, a00, a01⟩ := B0.c2
            obtain ⟨bl1, a10, a11⟩ := B1.c2
            obtain ⟨bl2, a20, a21⟩ := B2.c2
            go_wp2_with (fail)
            refine (HC2.out _ R2.out).mono ?_; rintro e w3 ⟨rfl, hb⟩
            replace L := bstep L L.size hb
            replace B0 := B0.below hb
            replace B1 := B1.below hb
            replace B2 := B2.below hb
            replace R0 := Lib.hid (spTab.rd_below R0.out hb)
            replace R1 := Lib.hid (spTab.rd_below R1.out hb)
            replace R2 := Lib.hid (spTab.rd_below R2.out hb)
            clear a00 a01 a10 a11 a20 a21 bl0 bl1 bl2
            clear HC2 hb
            obtain ⟨bl0, a00, a01⟩ := B0.c2
            obtain ⟨bl1, a10, a11⟩ := B1.c2
            obtain ⟨bl2, a20, a21⟩ := B2.c2
            go_wp2_with (fail)
            go_ret
            exact ⟨ret_b HE.out.symm, L⟩
        · have HE := Lib.hid (smith_no4 (v := x2) (d := x3) hc4)
          have T4 : (x1.C != (x0.R.length : Int)) = true := bne_iff_ne.mpr hc4
          clear hk0 hk1 hk2 hc4
          obtain ⟨bl0, a00, a01⟩ := B0.c2
          obtain ⟨bl1, a10, a11⟩ := B1.c2
          obtain ⟨bl2, a20, a21⟩ := B2.c2
          go_enter Try.func18, Try.ntmps18
          go_wp2_with (fail)
          refine (HC0.out _ R0.out).mono ?_; rintro e w1 ⟨rfl, hb⟩
          replace L := bstep L L.size hb
          replace B0 := B0.below hb
          replace B1 := B1.below hb
          replace B2 := B2.below hb
          replace R0 := Lib.hid (spTab.rd_below R0.out hb)
          replace R1 := Lib.hid (spTab.rd_below R1.out hb)
          replace R2 := Lib.hid (spTab.rd_below R2.out hb)
          clear a00 a01 a10 a11 a20 a21 bl0 bl1 bl2
          clear HC0 hb
          obtain ⟨bl0, a00, a01⟩ := B0.c2
          obtain ⟨bl1, a10, a11⟩ := B1.c2
          obtain ⟨bl2, a20, a21⟩ := B2.c2
          go_wp2_with (fail)
          refine (HC1.out _ R1.out).mono ?_; rintro e w2 ⟨rfl, hb⟩
          replace L := bstep L L.size hb
          replace B0 := B0.below hb
          replace B1 := B1.below hb
          replace B2 := B2.below hb
          replace R0 := Lib.hid (spTab.rd_below R0.out hb)
          replace R1 := Lib.hid (spTab.rd_below R1.out hb)
          replace R2 := Lib.hid (spTab.rd_below R2.out hb)
          clear a00 a01 a10 a11 a20 a21 bl0 bl1 bl2
          clear HC1 hb
          obtain ⟨bl0, a00, a01⟩ := B0.c2
          obtain ⟨bl1, a10, a11⟩ := B1.c2
          obtain ⟨bl2, a20, a21⟩ := B2.c2
          go_wp2_with (fail)
          refine (HC2.out _ R2.out).mono ?_; rintro e w3 ⟨rfl, hb⟩
          replace L := bstep L L.size hb
          replace B0 := B0.below hb
          replace B1 := B1.below hb
          replace B2 := B2.below hb
          replace R0 := Lib.hid (spTab.rd_below R0.out hb)
          replace R1 := Lib.hid (spTab.rd_below R1.out hb)
          replace R2 := Lib.hid (spTab.rd_below R2.out hb)
          clear a00 a01 a10 a11 a20 a21 bl0 bl1 bl2
          clear HC2 hb
          obtain ⟨bl0, a00, a01⟩ := B0.c2
          obtain ⟨bl1, a10, a11⟩ := B1.c2
          obtain ⟨bl2, a20, a21⟩ := B2.c2
          go_wp2_with (fail)
          go_ret
          exact ⟨ret_b HE.out.symm, L⟩
end Go.Proofs.Ytihdidbikeaafaa
