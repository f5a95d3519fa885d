/- AbelianOrder and ExponentOf of the program and of the model. -/
import Derived.Test.YtihdidbikeaafaaL07B
namespace Go.Proofs.Ytihdidbikeaafaa
open Go.RowKit
set_option linter.unusedVariables false
set_option linter.unusedSimpArgs false

theorem Ab.ok_out {x : Ab} (h : x.ok = true) : x.F.length ≤ 10 ∧ 0 ≤ x.K ∧ x.K ≤ 10 - (x.F.length : Int) ∧ (∀ j, j < x.F.length → Num.Rng x.F j) ∧ Num.chainB x.F = true := Num.abB_out h
theorem Ab.ok_pos {x : Ab} (h : x.ok = true) : ∀ j, j < x.F.length → 1 ≤ x.F.getD j 0 := fun j hj => by have := ((Ab.ok_out h).2.2.2.1 j hj).1; omega
def rAbelianOrder (x : Ab) : Int := if x.ok = true then (if 0 < x.K then 0 else Num.cnt x.F) else 0
def cAbelianOrder (x : Ab) : Int := if x.ok = true then (if 0 < x.K then 0 else Num.cntC x.F) else 1
theorem Ab.order_bad {x : Ab} (h : x.ok = false) : rAbelianOrder x = 0 ∧ cAbelianOrder x = 1 := by unfold rAbelianOrder cAbelianOrder; simp [h]
theorem Ab.order_inf {x : Ab} (h : x.ok = true) (h' : 0 < x.K) : rAbelianOrder x = 0 ∧ cAbelianOrder x = 0 := by unfold rAbelianOrder cAbelianOrder; simp [h, h']
theorem Ab.order_fin {x : Ab} (h : x.ok = true) (h' : ¬ 0 < x.K) : rAbelianOrder x = Num.cnt x.F ∧ cAbelianOrder x = Num.cntC x.F := by unfold rAbelianOrder cAbelianOrder; rw [if_pos h, if_pos h, if_neg h', if_neg h']; exact ⟨rfl, rfl⟩
def rExponentOf (x : Ab) : Int := if x.ok = true then (if 0 < x.K then 0 else Num.lastF x.F) else 0
def cExponentOf (x : Ab) : Int := if x.ok = true then 0 else 1
theorem Ab.expo_bad {x : Ab} (h : x.ok = false) : rExponentOf x = 0 ∧ cExponentOf x = 1 := by unfold rExponentOf cExponentOf; simp [h]
theorem Ab.expo_inf {x : Ab} (h : x.ok = true) (h' : 0 < x.K) : rExponentOf x = 0 ∧ cExponentOf x = 0 := by unfold rExponentOf cExponentOf; simp [h, h']
theorem Ab.expo_fin {x : Ab} (h : x.ok = true) (h' : ¬ 0 < x.K) : rExponentOf x = Num.lastF x.F ∧ cExponentOf x = 0 := by unfold rExponentOf cExponentOf; rw [if_pos h, if_pos h, if_neg h']; exact ⟨rfl, rfl⟩
set_option maxHeartbeats 400000 in
theorem iAbelianOrder_any (v0 : Value) (x0 : Ab) (w : World) (h0 : spAb.rd w v0 x0) : Calls Try.prog 27 #[v0] w (RetI (rAbelianOrder x0) (cAbelianOrder x0) w) := by
  obtain ⟨F, K⟩ := x0
  obtain ⟨_, rfl, A, c, rfl, hm, hA0⟩ := h0
  replace hA0 : RdI w A F := hA0
  replace hm : F.length ≤ maxLen := hm
  have L : Below w.heap.size w (w.alloc (.cells [.slice A F.length c, .int .i64 K].toArray 38)) := by go_grown
  have Ba : Blk (w.alloc (.cells [.slice A F.length c, .int .i64 K].toArray 38)) w.heap.size [.slice A F.length c, .int .i64 K] 38 := Blk.new w _ _
  have K0 := Lib.hid (spAb.rd_below (x := ⟨F, K⟩) (v := .agg #[.slice A F.length c, .int .i64 K]) ⟨_, rfl, A, c, rfl, hm, hA0⟩ L)
  cases hk : Ab.ok ⟨F, K⟩ with
  | false =>
    have HE := Lib.hid (Ab.order_bad hk)
    have HC := Lib.hid (isAb_no _ _ _ K0.out hk)
    clear hk hA0 hm
    obtain ⟨bl, a0, a1⟩ := Ba.c2
    go_enter Try.func27, Try.ntmps27
    go_wp2_with (fail)
    refine HC.out.mono ?_; rintro e w1 ⟨rfl, hb⟩
    replace L := bstep L L.size hb
    replace Ba := Ba.below hb
    replace K0 := Lib.hid (spAb.rd_below K0.out hb)
    clear a0 a1 bl HC hb
    obtain ⟨bl, a0, a1⟩ := Ba.c2
    go_wp2_with (fail)
    refine bodyPost_ret (v := .tuple #[.int .i64 0, .int .i64 1]) (by simp [results, Try.results27, go_sem]) rfl ?_
    rw [HE.out.1, HE.out.2]
    exact ⟨rfl, L⟩
  | true =>
    have HC := Lib.hid (isAb_yes _ _ _ K0.out hk)
    by_cases hK : 0 < K
    · have HE := Lib.hid (Ab.order_inf hk hK)
      clear hk hA0 hm
      obtain ⟨bl, a0, a1⟩ := Ba.c2
      go_enter Try.func27, Try.ntmps27
      go_wp2_with (fail)
      refine HC.out.mono ?_; rintro e w1 ⟨rfl, hb⟩
      replace L := bstep L L.size hb
      replace Ba := Ba.below hb
      replace K0 := Lib.hid (spAb.rd_below K0.out hb)
      clear a0 a1 bl HC hb
      obtain ⟨bl, a0, a1⟩ := Ba.c2
      go_wp2_with (fail)
      refine bodyPost_ret (v := .tuple #[.int .i64 0, .int .i64 0]) (by simp [results, Try.results27, go_sem]) rfl ?_
      rw [HE.out.1, HE.out.2]
      exact ⟨rfl, L⟩
    · have HE := Lib.hid (Ab.order_fin hk hK)
      have HM : Hid (∀ W, Below w.heap.size w W → Calls Try.prog 65 #[.slice A F.length c] W fun e w' => e = .returned (.tuple #[.int .i64 (Num.cnt F), .int .i64 (Num.cntC F)]) ∧ Below W.heap.size W w') := Lib.hid fun W hW => (countProd_any A c F W (hA0.below' hW) hm (Ab.ok_pos hk)).mono (by rintro e w' ⟨rfl, rfl⟩; exact ⟨rfl, Below.refl _ _⟩)
      clear hk hA0 hm
      rw [HE.out.1, HE.out.2]
      generalize Num.cnt F = r1 at *
      generalize Num.cntC F = r2 at *
      clear HE
      obtain ⟨bl, a0, a1⟩ := Ba.c2
      go_enter Try.func27, Try.ntmps27
      go_wp2_with (fail)
      refine HC.out.mono ?_; rintro e w1 ⟨rfl, hb⟩
      replace L := bstep L L.size hb
      replace Ba := Ba.below hb
      replace K0 := Lib.hid (spAb.rd_below K0.out hb)
      clear a0 a1 bl HC hb
      obtain ⟨bl, a0, a1⟩ := Ba.c2
      go_wp2_with (fail)
      refine (HM.out _ L).mono ?_; rintro e w2 ⟨rfl, hb⟩
      replace L := bstep L L.size hb
      clear HM hb
      go_wp2_with (fail)
      refine bodyPost_ret (v := .tuple #[.int .i64 r1, .int .i64 r2]) (by simp [results, Try.results27, go_sem]) rfl ?_
      exact ⟨rfl, L⟩
set_option maxHeartbeats 400000 in
theorem iExponentOf_any (v0 : Value) (x0 : Ab) (w : World) (h0 : spAb.rd w v0 x0) : Calls Try.prog 29 #[v0] w (RetI (rExponentOf x0) (cExponentOf x0) w) := by
  obtain ⟨F, K⟩ := x0
  obtain ⟨_, rfl, A, c, rfl, hm, hA0⟩ := h0
  replace hA0 : RdI w A F := hA0
  replace hm : F.length ≤ maxLen := hm
  have L : Below w.heap.size w (w.alloc (.cells [.slice A F.length c, .int .i64 K].toArray 38)) := by go_grown
  have Ba : Blk (w.alloc (.cells [.slice A F.length c, .int .i64 K].toArray 38)) w.heap.size [.slice A F.length c, .int .i64 K] 38 := Blk.new w _ _
  have K0 := Lib.hid (spAb.rd_below (x := ⟨F, K⟩) (v := .agg #[.slice A F.length c, .int .i64 K]) ⟨_, rfl, A, c, rfl, hm, hA0⟩ L)
  cases hk : Ab.ok ⟨F, K⟩ with
  | false =>
    have HE := Lib.hid (Ab.expo_bad hk)
    have HC := Lib.hid (isAb_no _ _ _ K0.out hk)
    clear hk hA0 hm
    obtain ⟨bl, a0, a1⟩ := Ba.c2
    go_enter Try.func29, Try.ntmps29
    go_wp2_with (fail)
    refine HC.out.mono ?_; rintro e w1 ⟨rfl, hb⟩
    replace L := bstep L L.size hb
    replace Ba := Ba.below hb
    replace K0 := Lib.hid (spAb.rd_below K0.out hb)
    clear a0 a1 bl HC hb
    obtain ⟨bl, a0, a1⟩ := Ba.c2
    go_wp2_with (fail)
    refine bodyPost_ret (v := .tuple #[.int .i64 0, .int .i64 1]) (by simp [results, Try.results29, go_sem]) rfl ?_
    rw [HE.out.1, HE.out.2]
    exact ⟨rfl, L⟩
  | true =>
    have HC := Lib.hid (isAb_yes _ _ _ K0.out hk)
    by_cases hK : 0 < K
    · have HE := Lib.hid (Ab.expo_inf hk hK)
      clear hk hA0 hm
      obtain ⟨bl, a0, a1⟩ := Ba.c2
      go_enter Try.func29, Try.ntmps29
      go_wp2_with (fail)
      refine HC.out.mono ?_; rintro e w1 ⟨rfl, hb⟩
      replace L := bstep L L.size hb
      replace Ba := Ba.below hb
      replace K0 := Lib.hid (spAb.rd_below K0.out hb)
      clear a0 a1 bl HC hb
      obtain ⟨bl, a0, a1⟩ := Ba.c2
      go_wp2_with (fail)
      refine bodyPost_ret (v := .tuple #[.int .i64 0, .int .i64 0]) (by simp [results, Try.results29, go_sem]) rfl ?_
      rw [HE.out.1, HE.out.2]
      exact ⟨rfl, L⟩
    · have HE := Lib.hid (Ab.expo_fin hk hK)
      have HM : Hid (∀ W v, spAb.rd W v ⟨F, K⟩ → Calls Try.prog 66 #[v] W fun e w' => e = .returned (.int .i64 (Num.lastF F)) ∧ Below W.heap.size W w') := Lib.hid fun W v hW => torsion_any v ⟨F, K⟩ W hW
      clear hk hA0 hm
      rw [HE.out.1, HE.out.2]
      generalize Num.lastF F = r1 at *
      clear HE
      obtain ⟨bl, a0, a1⟩ := Ba.c2
      go_enter Try.func29, Try.ntmps29
      go_wp2_with (fail)
      refine HC.out.mono ?_; rintro e w1 ⟨rfl, hb⟩
      replace L := bstep L L.size hb
      replace Ba := Ba.below hb
      replace K0 := Lib.hid (spAb.rd_below K0.out hb)
      clear a0 a1 bl HC hb
      obtain ⟨bl, a0, a1⟩ := Ba.c2
      go_wp2_with (fail)
      refine (HM.out _ _ K0.out).mono ?_; rintro e w2 ⟨rfl, hb⟩
      replace L := bstep L L.size hb
      clear HM hb
      go_wp2_with (fail)
      refine bodyPost_ret (v := .tuple #[.int .i64 r1, .int .i64 0]) (by simp [results, Try.results29, go_sem]) rfl ?_
      exact ⟨rfl, L⟩
set_option maxHeartbeats 400000 in
theorem sAbelianOrder_any (v0 : Value) (x0 : Ab) (w : World) (h0 : spAb.rd w v0 x0) : Calls Try.prog 26 #[v0] w (RetI (rAbelianOrder x0) (cAbelianOrder x0) w) := by
  obtain ⟨F, K⟩ := x0
  obtain ⟨_, rfl, A, c, rfl, hm, hA0⟩ := h0
  replace hA0 : RdI w A F := hA0
  replace hm : F.length ≤ maxLen := hm
  have L : Below w.heap.size w (w.alloc (.cells [.slice A F.length c, .int .i64 K].toArray 38)) := by go_grown
  have Ba : Blk (w.alloc (.cells [.slice A F.length c, .int .i64 K].toArray 38)) w.heap.size [.slice A F.length c, .int .i64 K] 38 := Blk.new w _ _
  have K0 := Lib.hid (spAb.rd_below (x := ⟨F, K⟩) (v := .agg #[.slice A F.length c, .int .i64 K]) ⟨_, rfl, A, c, rfl, hm, hA0⟩ L)
  cases hk : Ab.ok ⟨F, K⟩ with
  | false =>
    have HE := Lib.hid (Ab.order_bad hk)
    have HC := Lib.hid (sIsAb_no _ _ _ K0.out hk)
    clear hk hA0 hm
    obtain ⟨bl, a0, a1⟩ := Ba.c2
    go_enter Try.func26, Try.ntmps26
    go_wp2_with (fail)
    refine HC.out.mono ?_; rintro e w1 ⟨rfl, hb⟩
    replace L := bstep L L.size hb
    replace Ba := Ba.below hb
    replace K0 := Lib.hid (spAb.rd_below K0.out hb)
    clear a0 a1 bl HC hb
    obtain ⟨bl, a0, a1⟩ := Ba.c2
    go_wp2_with (fail)
    refine bodyPost_ret (v := .tuple #[.int .i64 0, .int .i64 1]) (by simp [results, Try.results26, go_sem]) rfl ?_
    rw [HE.out.1, HE.out.2]
    exact ⟨rfl, L⟩
  | true =>
    have HC := Lib.hid (sIsAb_yes _ _ _ K0.out hk)
    by_cases hK : 0 < K
    · have HE := Lib.hid (Ab.order_inf hk hK)
      clear hk hA0 hm
      obtain ⟨bl, a0, a1⟩ := Ba.c2
      go_enter Try.func26, Try.ntmps26
      go_wp2_with (fail)
      refine HC.out.mono ?_; rintro e w1 ⟨rfl, hb⟩
      replace L := bstep L L.size hb
      replace Ba := Ba.below hb
      replace K0 := Lib.hid (spAb.rd_below K0.out hb)
      clear a0 a1 bl HC hb
      obtain ⟨bl, a0, a1⟩ := Ba.c2
      go_wp2_with (fail)
      refine bodyPost_ret (v := .tuple #[.int .i64 0, .int .i64 0]) (by simp [results, Try.results26, go_sem]) rfl ?_
      rw [HE.out.1, HE.out.2]
      exact ⟨rfl, L⟩
    · have HE := Lib.hid (Ab.order_fin hk hK)
      have HM : Hid (∀ W, Below w.heap.size w W → Calls Try.prog 64 #[.slice A F.length c] W fun e w' => e = .returned (.tuple #[.int .i64 (Num.cnt F), .int .i64 (Num.cntC F)]) ∧ Below W.heap.size W w') := Lib.hid fun W hW => (sCount_any A c F W (hA0.below' hW) hm (Ab.ok_pos hk)).mono (by rintro e w' ⟨rfl, hb⟩; exact ⟨rfl, hb⟩)
      clear hk hA0 hm
      rw [HE.out.1, HE.out.2]
      generalize Num.cnt F = r1 at *
      generalize Num.cntC F = r2 at *
      clear HE
      obtain ⟨bl, a0, a1⟩ := Ba.c2
      go_enter Try.func26, Try.ntmps26
      go_wp2_with (fail)
      refine HC.out.mono ?_; rintro e w1 ⟨rfl, hb⟩
      replace L := bstep L L.size hb
      replace Ba := Ba.below hb
      replace K0 := Lib.hid (spAb.rd_below K0.out hb)
      clear a0 a1 bl HC hb
      obtain ⟨bl, a0, a1⟩ := Ba.c2
      go_wp2_with (fail)
      refine (HM.out _ L).mono ?_; rintro e w2 ⟨rfl, hb⟩
      replace L := bstep L L.size hb
      clear HM hb
      go_wp2_with (fail)
      refine bodyPost_ret (v := .tuple #[.int .i64 r1, .int .i64 r2]) (by simp [results, Try.results26, go_sem]) rfl ?_
      exact ⟨rfl, L⟩
set_option maxHeartbeats 400000 in
theorem sExponentOf_any (v0 : Value) (x0 : Ab) (w : World) (h0 : spAb.rd w v0 x0) : Calls Try.prog 28 #[v0] w (RetI (rExponentOf x0) (cExponentOf x0) w) := by
  obtain ⟨F, K⟩ := x0
  obtain ⟨_, rfl, A, c, rfl, hm, hA0⟩ := h0
  replace hA0 : RdI w A F := hA0
  replace hm : F.length ≤ maxLen := hm
  have L : Below w.heap.size w (w.alloc (.cells [.slice A F.length c, .int .i64 K].toArray 38)) := by go_grown
  have Ba : Blk (w.alloc (.cells [.slice A F.length c, .int .i64 K].toArray 38)) w.heap.size [.slice A F.length c, .int .i64 K] 38 := Blk.new w _ _
  have K0 := Lib.hid (spAb.rd_below (x := ⟨F, K⟩) (v := .agg #[.slice A F.length c, .int .i64 K]) ⟨_, rfl, A, c, rfl, hm, hA0⟩ L)
  cases hk : Ab.ok ⟨F, K⟩ with
  | false =>
    have HE := Lib.hid (Ab.expo_bad hk)
    have HC := Lib.hid (sIsAb_no _ _ _ K0.out hk)
    clear hk hA0 hm
    obtain ⟨bl, a0, a1⟩ := Ba.c2
    go_enter Try.func28, Try.ntmps28
    go_wp2_with (fail)
    refine HC.out.mono ?_; rintro e w1 ⟨rfl, hb⟩
    replace L := bstep L L.size hb
    replace Ba := Ba.below hb
    replace K0 := Lib.hid (spAb.rd_below K0.out hb)
    clear a0 a1 bl HC hb
    obtain ⟨bl, a0, a1⟩ := Ba.c2
    go_wp2_with (fail)
    refine bodyPost_ret (v := .tuple #[.int .i64 0, .int .i64 1]) (by simp [results, Try.results28, go_sem]) rfl ?_
    rw [HE.out.1, HE.out.2]
    exact ⟨rfl, L⟩
  | true =>
    have HC := Lib.hid (sIsAb_yes _ _ _ K0.out hk)
    by_cases hK : 0 < K
    · have HE := Lib.hid (Ab.expo_inf hk hK)
      clear hk hA0 hm
      obtain ⟨bl, a0, a1⟩ := Ba.c2
      go_enter Try.func28, Try.ntmps28
      go_wp2_with (fail)
      refine HC.out.mono ?_; rintro e w1 ⟨rfl, hb⟩
      replace L := bstep L L.size hb
      replace Ba := Ba.below hb
      replace K0 := Lib.hid (spAb.rd_below K0.out hb)
      clear a0 a1 bl HC hb
      obtain ⟨bl, a0, a1⟩ := Ba.c2
      go_wp2_with (fail)
      refine bodyPost_ret (v := .tuple #[.int .i64 0, .int .i64 0]) (by simp [results, Try.results28, go_sem]) rfl ?_
      rw [HE.out.1, HE.out.2]
      exact ⟨rfl, L⟩
    · have HE := Lib.hid (Ab.expo_fin hk hK)
      have hm' := hm
      unfold maxLen at hm'
      by_cases h0 : F.length = 0
      · have HB : Hid (Num.lastF F = 1) := Lib.hid (if_pos h0)
        have T1 : ((F.length : Int) == 0) = true := by simpa using h0
        clear hk hA0 hm hm'
        rw [HE.out.1, HE.out.2, HB.out]
        clear HE HB
        generalize F.length = m at *
        subst h0
        obtain ⟨bl, a0, a1⟩ := Ba.c2
        go_enter Try.func28, Try.ntmps28
        go_wp2_with (fail)
        refine HC.out.mono ?_; rintro e w1 ⟨rfl, hb⟩
        replace L := bstep L L.size hb
        replace Ba := Ba.below hb
        replace K0 := Lib.hid (spAb.rd_below K0.out hb)
        clear a0 a1 bl HC hb
        obtain ⟨bl, a0, a1⟩ := Ba.c2
        go_wp2_with (fail)
        refine bodyPost_ret (v := .tuple #[.int .i64 1, .int .i64 0]) (by simp [results, Try.results28, go_sem]) rfl ?_
        exact ⟨rfl, L⟩
      · have HB : Hid (Num.lastF F = F.getD (F.length - 1) 0) := Lib.hid (if_neg h0)
        have HA : Hid (∀ W, Below w.heap.size w W → ∃ g o, A = some ⟨g, o, none⟩ ∧ W.cell? ⟨g, o + (F.length - 1), none⟩ = some (.int .i64 (F.getD (F.length - 1) 0))) := Lib.hid fun W hW => by
          obtain ⟨g, o, e1, _, e2⟩ := (hA0.below' hW) (F.length - 1) (by omega)
          exact ⟨g, o, e1, e2⟩
        have T1 : ((F.length : Int) == 0) = false := by simpa using h0
        have i0 : (0 : Int) ≤ (F.length : Int) - 1 := by omega
        have i1 : (F.length : Int) - 1 < (F.length : Int) := by omega
        have h0' : 0 < F.length := by omega
        rw [HE.out.1, HE.out.2, HB.out]
        clear hk hA0 hm HB HE
        generalize F.getD (F.length - 1) 0 = y at *
        obtain ⟨bl, a0, a1⟩ := Ba.c2
        go_enter Try.func28, Try.ntmps28
        go_wp2_with (fail)
        refine HC.out.mono ?_; rintro e w1 ⟨rfl, hb⟩
        replace L := bstep L L.size hb
        replace Ba := Ba.below hb
        replace K0 := Lib.hid (spAb.rd_below K0.out hb)
        clear a0 a1 bl HC hb
        obtain ⟨bl, a0, a1⟩ := Ba.c2
        obtain ⟨g, o, rfl, hc⟩ := HA.out _ L
        go_wp2_with (fail)
        refine bodyPost_ret (v := .tuple #[.int .i64 y, .int .i64 0]) (by simp [results, Try.results28, go_sem]) rfl ?_
        exact ⟨rfl, L⟩
theorem iAbelianOrder_ok (v0 : Value) (x0 : Ab) (w : World) (h0 : spAb.rd w v0 x0) (s0 : spAb.sz x0 ≤ 1048576) : Calls Try.prog 27 #[v0] w (RetI (rAbelianOrder x0) (cAbelianOrder x0) w) := iAbelianOrder_any v0 x0 w h0
theorem sAbelianOrder_ok (v0 : Value) (x0 : Ab) (w : World) (h0 : spAb.rd w v0 x0) (s0 : spAb.sz x0 ≤ 1048576) : Calls Try.prog 26 #[v0] w (RetI (rAbelianOrder x0) (cAbelianOrder x0) w) := sAbelianOrder_any v0 x0 w h0
theorem iExponentOf_ok (v0 : Value) (x0 : Ab) (w : World) (h0 : spAb.rd w v0 x0) (s0 : spAb.sz x0 ≤ 1048576) : Calls Try.prog 29 #[v0] w (RetI (rExponentOf x0) (cExponentOf x0) w) := iExponentOf_any v0 x0 w h0
theorem sExponentOf_ok (v0 : Value) (x0 : Ab) (w : World) (h0 : spAb.rd w v0 x0) (s0 : spAb.sz x0 ≤ 1048576) : Calls Try.prog 28 #[v0] w (RetI (rExponentOf x0) (cExponentOf x0) w) := sExponentOf_any v0 x0 w h0
end Go.Proofs.Ytihdidbikeaafaa
