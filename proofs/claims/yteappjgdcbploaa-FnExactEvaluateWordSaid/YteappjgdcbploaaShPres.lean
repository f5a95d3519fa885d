/- Contracts of the laws' helpers at Presentation: measure, copy, comparison, marks. -/
import Derived.Test.YteappjgdcbploaaKB
import Derived.Test.YteappjgdcbploaaShIII
namespace Go.Proofs.Yteappjgdcbploaa
open Go.RowKit
set_option linter.unusedVariables false
set_option linter.unusedSimpArgs false

structure Pres where
  O : List Int
  W : List (List Int)
  J : List (List (List Int))
def spPres : Sp Pres where
  rd w v x := ∃ v0 v1 v2, v = .agg #[v0, v1, v2] ∧ spI.rd w v0 x.O ∧ spII.rd w v1 x.W ∧ spIII.rd w v2 x.J
  own w S v x := ∃ (v0 v1 v2 : Value) (T0 T1 T2 : Nat → Prop), v = .agg #[v0, v1, v2] ∧ spI.own w T0 v0 x.O ∧ spII.own w T1 v1 x.W ∧ spIII.own w T2 v2 x.J ∧ (∀ k, T0 k → ¬ T1 k) ∧ (∀ k, T0 k → ¬ T2 k) ∧ (∀ k, T1 k → ¬ T2 k) ∧ (∀ k, T0 k → S k) ∧ (∀ k, T1 k → S k) ∧ (∀ k, T2 k → S k) ∧ ∀ k, S k → k < w.heap.size
  sz x := spI.sz x.O + spII.sz x.W + spIII.sz x.J
  cnt x := spI.cnt x.O + spII.cnt x.W + spIII.cnt x.J
  mark k x := { x with O := spI.mark (k) x.O, W := spII.mark (k + spI.cnt x.O) x.W, J := spIII.mark (k + spI.cnt x.O + spII.cnt x.W) x.J }
  rd_keep := fun ⟨v0, v1, v2, e, r0, r1, r2⟩ hz hk => ⟨v0, v1, v2, e, spI.rd_keep r0 hz hk, spII.rd_keep r1 hz hk, spIII.rd_keep r2 hz hk⟩
  own_keep := fun {w w' S v x} ⟨v0, v1, v2, T0, T1, T2, e, o0, o1, o2, d0, d1, d2, s0, s1, s2, hl⟩ hk => ⟨v0, v1, v2, T0, T1, T2, e, spI.own_keep o0 (fun k h => hk k (s0 k h)), spII.own_keep o1 (fun k h => hk k (s1 k h)), spIII.own_keep o2 (fun k h => hk k (s2 k h)), d0, d1, d2, s0, s1, s2, fun k hS => heap_lt (hl k hS) (hk k hS)⟩
  own_lt := fun ⟨_, _, _, _, _, _, _, _, _, _, _, _, _, _, _, _, hl⟩ hS => hl _ hS
  own_rd := fun ⟨v0, v1, v2, T0, T1, T2, e, o0, o1, o2, d0, d1, d2, s0, s1, s2, hl⟩ => ⟨v0, v1, v2, e, spI.own_rd o0, spII.own_rd o1, spIII.own_rd o2⟩

theorem spPres_cnt (x : Pres) : spPres.cnt x ≤ spPres.sz x := by
  show spI.cnt x.O + spII.cnt x.W + spIII.cnt x.J ≤ spI.sz x.O + spII.sz x.W + spIII.sz x.J
  have e0 := spI_cnt x.O
  have e1 := spII_cnt x.W
  have e2 := spIII_cnt x.J
  omega
theorem spPres_form {w : World} {v : Value} {x : Pres} (h : spPres.rd w v x) : ∃ A0 n0 c0 A1 n1 c1 A2 n2 c2, v = .agg #[.slice A0 n0 c0, .slice A1 n1 c1, .slice A2 n2 c2] ∧ spI.rd w (.slice A0 n0 c0) x.O ∧ spII.rd w (.slice A1 n1 c1) x.W ∧ spIII.rd w (.slice A2 n2 c2) x.J := by
  obtain ⟨v0, v1, v2, rfl, r0, r1, r2⟩ := h
  obtain ⟨A0, c0, rfl, m0, q0⟩ := r0
  obtain ⟨A1, c1, rfl, m1, q1⟩ := r1
  obtain ⟨A2, c2, rfl, m2, q2⟩ := r2
  exact ⟨A0, _, c0, A1, _, c1, A2, _, c2, rfl, ⟨A0, c0, rfl, m0, q0⟩, ⟨A1, c1, rfl, m1, q1⟩, ⟨A2, c2, rfl, m2, q2⟩⟩
set_option maxHeartbeats 400000 in
theorem szPres_ok : SzOk 16 spPres := by
  intro v x left w h h0 hl
  obtain ⟨A0, n0, c0, A1, n1, c1, A2, n2, c2, rfl, r0, r1, r2⟩ := spPres_form h
  show Calls _ _ _ _ fun e w' => e = .returned (.int .i64 (szLeft (spI.sz x.O + spII.sz x.W + spIII.sz x.J) left)) ∧ _
  have L0 : Below w.heap.size w (w.alloc (.cells [.slice A0 n0 c0, .slice A1 n1 c1, .slice A2 n2 c2].toArray 26)) := by go_grown
  have B0 := Blk.new w [.slice A0 n0 c0, .slice A1 n1 c1, .slice A2 n2 c2] 26
  have Z0 : w.heap.size ≤ (w.alloc (.cells [.slice A0 n0 c0, .slice A1 n1 c1, .slice A2 n2 c2].toArray 26)).heap.size := by go_size
  have R0 := Lib.hid (spI.rd_below r0 ((Below.refl _ _).alloc (Nat.le_refl _) (.cells [.slice A0 n0 c0, .slice A1 n1 c1, .slice A2 n2 c2].toArray 26)))
  have R1 := Lib.hid (spII.rd_below r1 ((Below.refl _ _).alloc (Nat.le_refl _) (.cells [.slice A0 n0 c0, .slice A1 n1 c1, .slice A2 n2 c2].toArray 26)))
  have R2 := Lib.hid (spIII.rd_below r2 ((Below.refl _ _).alloc (Nat.le_refl _) (.cells [.slice A0 n0 c0, .slice A1 n1 c1, .slice A2 n2 c2].toArray 26)))
  clear h r0 r1 r2
  have HC := Lib.hid (szI_ok _ _ left _ R0.out h0 hl)
  by_cases f0 : (spI.sz x.O : Int) ≤ left
  · have e1 := szLeft_yes f0
    rw [e1] at HC
    clear e1
    have p0 : 0 ≤ left - (spI.sz x.O : Int) := by omega
    have q0 : left - (spI.sz x.O : Int) ≤ 1048576 := by omega
    go_enter Try.func16, Try.ntmps16
    go_wp2_with (fail)
    refine HC.out.mono ?_; rintro e w1 ⟨rfl, hb1⟩
    have L1 := bstep L0 Z0 hb1
    have Z1 : w.heap.size ≤ w1.heap.size := L1.size
    have B1 := B0.below hb1
    replace R1 := Lib.hid (spII.rd_below R1.out hb1)
    replace R2 := Lib.hid (spIII.rd_below R2.out hb1)
    replace HC := Lib.hid (szII_ok _ _ (left - (spI.sz x.O : Int)) _ R1.out p0 q0)
    have b1 := B1.c3
    obtain ⟨b1l, b1c0, b1c1, b1c2⟩ := b1
    clear hb1
    by_cases f1 : (spII.sz x.W : Int) ≤ left - (spI.sz x.O : Int)
    · have e1 := szLeft_yes f1
      rw [e1] at HC
      clear e1
      have p1 : 0 ≤ left - (spI.sz x.O : Int) - (spII.sz x.W : Int) := by omega
      have q1 : left - (spI.sz x.O : Int) - (spII.sz x.W : Int) ≤ 1048576 := by omega
      go_wp2_with (fail)
      refine HC.out.mono ?_; rintro e w2 ⟨rfl, hb2⟩
      have L2 := bstep L1 Z1 hb2
      have Z2 : w.heap.size ≤ w2.heap.size := L2.size
      have B2 := B1.below hb2
      replace R2 := Lib.hid (spIII.rd_below R2.out hb2)
      replace HC := Lib.hid (szIII_ok _ _ (left - (spI.sz x.O : Int) - (spII.sz x.W : Int)) _ R2.out p1 q1)
      have b2 := B2.c3
      obtain ⟨b2l, b2c0, b2c1, b2c2⟩ := b2
      clear hb2
      by_cases f2 : (spIII.sz x.J : Int) ≤ left - (spI.sz x.O : Int) - (spII.sz x.W : Int)
      · have e1 := szLeft_yes f2
        rw [e1] at HC
        clear e1
        have p2 : 0 ≤ left - (spI.sz x.O : Int) - (spII.sz x.W : Int) - (spIII.sz x.J : Int) := by omega
        have q2 : left - (spI.sz x.O : Int) - (spII.sz x.W : Int) - (spIII.sz x.J : Int) ≤ 1048576 := by omega
        go_wp2_with (fail)
        refine HC.out.mono ?_; rintro e w3 ⟨rfl, hb3⟩
        have L3 := bstep L2 Z2 hb3
        have Z3 : w.heap.size ≤ w3.heap.size := L3.size
        have B3 := B2.below hb3
        have HB : Hid (left - (spI.sz x.O : Int) - (spII.sz x.W : Int) - (spIII.sz x.J : Int) = szLeft (spI.sz x.O + spII.sz x.W + spIII.sz x.J) left) := Lib.hid (by have e := szLeft_yes (n := spI.sz x.O + spII.sz x.W + spIII.sz x.J) (left := left) (by omega); omega)
        clear hb3
        go_wp2_with (fail)
        go_ret
        exact ⟨ret_i HB.out, L3⟩
      · have e1 := szLeft_no (n := spIII.sz x.J) (left := left - (spI.sz x.O : Int) - (spII.sz x.W : Int)) (by omega)
        rw [e1] at HC
        have HB : Hid (szLeft (spI.sz x.O + spII.sz x.W + spIII.sz x.J) left = -1) := Lib.hid (szLeft_no (by omega))
        clear e1 f2
        go_wp2_with (fail)
        refine HC.out.mono ?_; rintro e w1 ⟨rfl, hb1⟩
        have L1 := bstep L2 Z2 hb1
        go_wp2_with (fail)
        go_ret
        exact ⟨ret_i HB.out.symm, L1⟩
    · have e1 := szLeft_no (n := spII.sz x.W) (left := left - (spI.sz x.O : Int)) (by omega)
      rw [e1] at HC
      have HB : Hid (szLeft (spI.sz x.O + spII.sz x.W + spIII.sz x.J) left = -1) := Lib.hid (szLeft_no (by omega))
      clear e1 f1
      go_wp2_with (fail)
      refine HC.out.mono ?_; rintro e w1 ⟨rfl, hb1⟩
      have L1 := bstep L1 Z1 hb1
      go_wp2_with (fail)
      go_ret
      exact ⟨ret_i HB.out.symm, L1⟩
  · have e1 := szLeft_no (n := spI.sz x.O) (left := left) (by omega)
    rw [e1] at HC
    have HB : Hid (szLeft (spI.sz x.O + spII.sz x.W + spIII.sz x.J) left = -1) := Lib.hid (szLeft_no (by omega))
    clear e1 f0
    go_enter Try.func16, Try.ntmps16
    go_wp2_with (fail)
    refine HC.out.mono ?_; rintro e w1 ⟨rfl, hb1⟩
    have L1 := bstep L0 Z0 hb1
    go_wp2_with (fail)
    go_ret
    exact ⟨ret_i HB.out.symm, L1⟩
set_option maxHeartbeats 1000000 in
set_option maxRecDepth 100000 in
theorem toPres_ok : ToOk 18 spPres := by
  intro v x w h hs
  obtain ⟨A0, n0, c0, A1, n1, c1, A2, n2, c2, rfl, r0, r1, r2⟩ := spPres_form h
  replace hs : spI.sz x.O + spII.sz x.W + spIII.sz x.J ≤ 1048576 := hs
  have L0 : Below w.heap.size w (((w.alloc (.cells [.slice A0 n0 c0, .slice A1 n1 c1, .slice A2 n2 c2].toArray 26)).alloc (.cells [.slice none 0 0, .slice none 0 0, .slice none 0 0].toArray 29)).alloc (.cells [.slice none 0 0, .slice none 0 0, .slice none 0 0].toArray 29)) := by go_grown
  have Z0 : w.heap.size + 1 + 1 < ((((w.alloc (.cells [.slice A0 n0 c0, .slice A1 n1 c1, .slice A2 n2 c2].toArray 26)).alloc (.cells [.slice none 0 0, .slice none 0 0, .slice none 0 0].toArray 29)).alloc (.cells [.slice none 0 0, .slice none 0 0, .slice none 0 0].toArray 29))).heap.size := by go_size
  have BA0 : Blk (((w.alloc (.cells [.slice A0 n0 c0, .slice A1 n1 c1, .slice A2 n2 c2].toArray 26)).alloc (.cells [.slice none 0 0, .slice none 0 0, .slice none 0 0].toArray 29)).alloc (.cells [.slice none 0 0, .slice none 0 0, .slice none 0 0].toArray 29)) w.heap.size [.slice A0 n0 c0, .slice A1 n1 c1, .slice A2 n2 c2] 26 := ((Blk.new w [.slice A0 n0 c0, .slice A1 n1 c1, .slice A2 n2 c2] _).alloc _).alloc _
  have BR0 : Blk (((w.alloc (.cells [.slice A0 n0 c0, .slice A1 n1 c1, .slice A2 n2 c2].toArray 26)).alloc (.cells [.slice none 0 0, .slice none 0 0, .slice none 0 0].toArray 29)).alloc (.cells [.slice none 0 0, .slice none 0 0, .slice none 0 0].toArray 29)) (w.heap.size + 1) [.slice none 0 0, .slice none 0 0, .slice none 0 0] 29 := by have := (Blk.new (w.alloc (.cells [.slice A0 n0 c0, .slice A1 n1 c1, .slice A2 n2 c2].toArray 26)) [.slice none 0 0, .slice none 0 0, .slice none 0 0] 29).alloc (.cells [.slice none 0 0, .slice none 0 0, .slice none 0 0].toArray 29); rwa [World.size_alloc] at this
  have BO0 : Blk (((w.alloc (.cells [.slice A0 n0 c0, .slice A1 n1 c1, .slice A2 n2 c2].toArray 26)).alloc (.cells [.slice none 0 0, .slice none 0 0, .slice none 0 0].toArray 29)).alloc (.cells [.slice none 0 0, .slice none 0 0, .slice none 0 0].toArray 29)) (w.heap.size + 1 + 1) [.slice none 0 0, .slice none 0 0, .slice none 0 0] 29 := by have := Blk.new ((w.alloc (.cells [.slice A0 n0 c0, .slice A1 n1 c1, .slice A2 n2 c2].toArray 26)).alloc (.cells [.slice none 0 0, .slice none 0 0, .slice none 0 0].toArray 29)) [.slice none 0 0, .slice none 0 0, .slice none 0 0] 29; rwa [World.size_alloc, World.size_alloc] at this
  have R0 := Lib.hid (spI.rd_alloc (spI.rd_alloc (spI.rd_alloc r0 (.cells [.slice A0 n0 c0, .slice A1 n1 c1, .slice A2 n2 c2].toArray 26)) (.cells [.slice none 0 0, .slice none 0 0, .slice none 0 0].toArray 29)) (.cells [.slice none 0 0, .slice none 0 0, .slice none 0 0].toArray 29))
  have R1 := Lib.hid (spII.rd_alloc (spII.rd_alloc (spII.rd_alloc r1 (.cells [.slice A0 n0 c0, .slice A1 n1 c1, .slice A2 n2 c2].toArray 26)) (.cells [.slice none 0 0, .slice none 0 0, .slice none 0 0].toArray 29)) (.cells [.slice none 0 0, .slice none 0 0, .slice none 0 0].toArray 29))
  have R2 := Lib.hid (spIII.rd_alloc (spIII.rd_alloc (spIII.rd_alloc r2 (.cells [.slice A0 n0 c0, .slice A1 n1 c1, .slice A2 n2 c2].toArray 26)) (.cells [.slice none 0 0, .slice none 0 0, .slice none 0 0].toArray 29)) (.cells [.slice none 0 0, .slice none 0 0, .slice none 0 0].toArray 29))
  have RW0 := Lib.hid r0
  have RW1 := Lib.hid r1
  have RW2 := Lib.hid r2
  clear h r0 r1 r2
  have HC := Lib.hid (toI_ok _ _ _ R0.out (by omega))
  go_enter Try.func18, Try.ntmps18
  go_wp2_with (fail)
  refine HC.out.mono ?_; rintro e w1 ⟨u0, S0, rfl, ow0, hS0, hb0⟩
  have sz0 := hb0.size
  obtain ⟨U0, d0, rfl, -, -⟩ := spI.own_rd ow0
  replace HC := trivial
  have hx0 : ∃ x0, x0 = x.O.length := ⟨_, rfl⟩
  obtain ⟨x0, hx0⟩ := hx0
  rw [← hx0] at ow0 ⊢
  have HX0 := Lib.hid hx0
  clear hx0
  have L0b := bstep L0 (by omega) hb0
  have Z0b : w.heap.size + 1 + 1 < w1.heap.size := Nat.lt_of_lt_of_le Z0 hb0.size
  have BA0b := BA0.below hb0
  have BR0b := BR0.below hb0
  have BO0b := BO0.below hb0
  have nS0 : ¬ S0 (w.heap.size + 1 + 1) := fun hs' => by have := hS0 _ hs'; omega
  have oo0 := spI.own_set ow0 (p := ⟨w.heap.size + 1 + 1, 0, none⟩) nS0 (.slice U0 x0 d0)
  have dm0 : ∀ k, S0 k → k < w1.heap.size := fun k hk => spI.own_lt ow0 hk
  have L1 := L0b.setCell (p := ⟨w.heap.size + 1 + 1, 0, none⟩) (by simp; omega) (.slice U0 x0 d0)
  have Z1 : w.heap.size + 1 + 1 < (w1.setCell ⟨w.heap.size + 1 + 1, 0, none⟩ (.slice U0 x0 d0)).heap.size := by simpa using Z0b
  have BA1 := BA0b.other (p := ⟨w.heap.size + 1 + 1, 0, none⟩) (by simp; omega) (.slice U0 x0 d0)
  have BR1 := BR0b.other (p := ⟨w.heap.size + 1 + 1, 0, none⟩) (by simp) (.slice U0 x0 d0)
  have BO1 := BO0b.set 0 (.slice U0 x0 d0)
  simp only [List.set] at BO1
  have fo0 := BO0b.free 0
  obtain ⟨ca0l, ca0c0, ca0c1, ca0c2⟩ := BA0b.c3
  obtain ⟨co0l, co0c0, co0c1, co0c2⟩ := BO0b.c3
  clear hb0
  obtain ⟨W1, hW1⟩ : ∃ X, (w1.setCell ⟨w.heap.size + 1 + 1, 0, none⟩ (.slice U0 x0 d0)) = X := ⟨_, rfl⟩
  have zz1 : W1.heap.size = w1.heap.size := by rw [← hW1]; simp
  rw [hW1] at L1 Z1 BA1 BR1 BO1 oo0
  obtain ⟨ve1, va0c0, va0c1, va0c2⟩ := BA1.c3
  obtain ⟨vf1, vo0c0, vo0c1, vo0c2⟩ := BO1.c3
  have vg1 := BO1.free 1
  have HC := Lib.hid (toII_ok _ _ _ (spII.rd_below RW1.out L1) (by omega))
  go_wp2_with (fail)
  clear hW1 ve1 vf1 vg1
  refine HC.out.mono ?_; rintro e w2 ⟨u1, S1, rfl, ow1, hS1, hb1⟩
  have sz1 := hb1.size
  obtain ⟨U1, d1, rfl, -, -⟩ := spII.own_rd ow1
  replace HC := trivial
  have hx1 : ∃ x1, x1 = x.W.length := ⟨_, rfl⟩
  obtain ⟨x1, hx1⟩ := hx1
  rw [← hx1] at ow1 ⊢
  have HX1 := Lib.hid hx1
  clear hx1
  have L1b := bstep L1 (by omega) hb1
  have Z1b : w.heap.size + 1 + 1 < w2.heap.size := Nat.lt_of_lt_of_le Z1 hb1.size
  have BA1b := BA1.below hb1
  have BR1b := BR1.below hb1
  have BO1b := BO1.below hb1
  have nS1 : ¬ S1 (w.heap.size + 1 + 1) := fun hs' => by have := hS1 _ hs'; omega
  have oo1 := spII.own_set ow1 (p := ⟨w.heap.size + 1 + 1, 1, none⟩) nS1 (.slice U1 x1 d1)
  have oo0 := spI.own_set (spI.own_below oo0 hb1) (p := ⟨w.heap.size + 1 + 1, 1, none⟩) nS0 (.slice U1 x1 d1)
  have dm1 : ∀ k, S1 k → k < w2.heap.size := fun k hk => spII.own_lt ow1 hk
  have L2 := L1b.setCell (p := ⟨w.heap.size + 1 + 1, 1, none⟩) (by simp; omega) (.slice U1 x1 d1)
  have Z2 : w.heap.size + 1 + 1 < (w2.setCell ⟨w.heap.size + 1 + 1, 1, none⟩ (.slice U1 x1 d1)).heap.size := by simpa using Z1b
  have BA2 := BA1b.other (p := ⟨w.heap.size + 1 + 1, 1, none⟩) (by simp; omega) (.slice U1 x1 d1)
  have BR2 := BR1b.other (p := ⟨w.heap.size + 1 + 1, 1, none⟩) (by simp) (.slice U1 x1 d1)
  have BO2 := BO1b.set 1 (.slice U1 x1 d1)
  simp only [List.set] at BO2
  have fo1 := BO1b.free 1
  obtain ⟨ca1l, ca1c0, ca1c1, ca1c2⟩ := BA1b.c3
  obtain ⟨co1l, co1c0, co1c1, co1c2⟩ := BO1b.c3
  clear hb1
  obtain ⟨W2, hW2⟩ : ∃ X, (w2.setCell ⟨w.heap.size + 1 + 1, 1, none⟩ (.slice U1 x1 d1)) = X := ⟨_, rfl⟩
  have zz2 : W2.heap.size = w2.heap.size := by rw [← hW2]; simp
  rw [hW2] at L2 Z2 BA2 BR2 BO2 oo0 oo1
  obtain ⟨ve2, va1c0, va1c1, va1c2⟩ := BA2.c3
  obtain ⟨vf2, vo1c0, vo1c1, vo1c2⟩ := BO2.c3
  have vg2 := BO2.free 2
  have HC := Lib.hid (toIII_ok _ _ _ (spIII.rd_below RW2.out L2) (by omega))
  go_wp2_with (fail)
  clear hW2 ve2 vf2 vg2
  refine HC.out.mono ?_; rintro e w3 ⟨u2, S2, rfl, ow2, hS2, hb2⟩
  have sz2 := hb2.size
  obtain ⟨U2, d2, rfl, -, -⟩ := spIII.own_rd ow2
  replace HC := trivial
  have hx2 : ∃ x2, x2 = x.J.length := ⟨_, rfl⟩
  obtain ⟨x2, hx2⟩ := hx2
  rw [← hx2] at ow2 ⊢
  have HX2 := Lib.hid hx2
  clear hx2
  have L2b := bstep L2 (by omega) hb2
  have Z2b : w.heap.size + 1 + 1 < w3.heap.size := Nat.lt_of_lt_of_le Z2 hb2.size
  have BA2b := BA2.below hb2
  have BR2b := BR2.below hb2
  have BO2b := BO2.below hb2
  have nS2 : ¬ S2 (w.heap.size + 1 + 1) := fun hs' => by have := hS2 _ hs'; omega
  have oo2 := spIII.own_set ow2 (p := ⟨w.heap.size + 1 + 1, 2, none⟩) nS2 (.slice U2 x2 d2)
  have oo0 := spI.own_set (spI.own_below oo0 hb2) (p := ⟨w.heap.size + 1 + 1, 2, none⟩) nS0 (.slice U2 x2 d2)
  have oo1 := spII.own_set (spII.own_below oo1 hb2) (p := ⟨w.heap.size + 1 + 1, 2, none⟩) nS1 (.slice U2 x2 d2)
  have dm2 : ∀ k, S2 k → k < w3.heap.size := fun k hk => spIII.own_lt ow2 hk
  have L3 := L2b.setCell (p := ⟨w.heap.size + 1 + 1, 2, none⟩) (by simp; omega) (.slice U2 x2 d2)
  have Z3 : w.heap.size + 1 + 1 < (w3.setCell ⟨w.heap.size + 1 + 1, 2, none⟩ (.slice U2 x2 d2)).heap.size := by simpa using Z2b
  have BA3 := BA2b.other (p := ⟨w.heap.size + 1 + 1, 2, none⟩) (by simp; omega) (.slice U2 x2 d2)
  have BR3 := BR2b.other (p := ⟨w.heap.size + 1 + 1, 2, none⟩) (by simp) (.slice U2 x2 d2)
  have BO3 := BO2b.set 2 (.slice U2 x2 d2)
  simp only [List.set] at BO3
  have fo2 := BO2b.free 2
  obtain ⟨ca2l, ca2c0, ca2c1, ca2c2⟩ := BA2b.c3
  obtain ⟨co2l, co2c0, co2c1, co2c2⟩ := BO2b.c3
  obtain ⟨cr2l, cr2c0, cr2c1, cr2c2⟩ := BR2b.c3
  have fr0 := BR2b.free 0
  have fr1 := BR2b.free 1
  have fr2 := BR2b.free 2
  have t1 : w.heap.size + 1 < w3.heap.size := by omega
  have KEEP := Lib.hid L3
  have OO0 := Lib.hid oo0
  have OO1 := Lib.hid oo1
  have OO2 := Lib.hid oo2
  clear hb2
  go_wp2_with (fail)
  refine bodyPost_ret (v := .agg #[.slice U0 x0 d0, .slice U1 x1 d1, .slice U2 x2 d2]) (by simp [results, Try.results18, go_sem, t1, Z2b, co2c0, cr2c0, co2c1, cr2c1, co2c2, cr2c2]) rfl ?_
  have nr0 : ¬ S0 (w.heap.size + 1) := fun hs' => by have := hS0 _ hs'; omega
  have nr1 : ¬ S1 (w.heap.size + 1) := fun hs' => by have := hS1 _ hs'; omega
  have nr2 : ¬ S2 (w.heap.size + 1) := fun hs' => by have := hS2 _ hs'; omega
  refine ⟨.agg #[.slice U0 x0 d0, .slice U1 x1 d1, .slice U2 x2 d2], (fun k => S0 k ∨ S1 k ∨ S2 k), rfl, ⟨.slice U0 x0 d0, .slice U1 x1 d1, .slice U2 x2 d2, S0, S1, S2, by simp [HX0.out], (spI.own_set (spI.own_set (spI.own_set OO0.out (p := ⟨w.heap.size + 1, 0, none⟩) nr0 _) (p := ⟨w.heap.size + 1, 1, none⟩) nr0 _) (p := ⟨w.heap.size + 1, 2, none⟩) nr0 _), (spII.own_set (spII.own_set (spII.own_set OO1.out (p := ⟨w.heap.size + 1, 0, none⟩) nr1 _) (p := ⟨w.heap.size + 1, 1, none⟩) nr1 _) (p := ⟨w.heap.size + 1, 2, none⟩) nr1 _), (spIII.own_set (spIII.own_set (spIII.own_set OO2.out (p := ⟨w.heap.size + 1, 0, none⟩) nr2 _) (p := ⟨w.heap.size + 1, 1, none⟩) nr2 _) (p := ⟨w.heap.size + 1, 2, none⟩) nr2 _), fun k h1 h2 => by have := dm0 k h1; have := hS1 k h2; omega, fun k h1 h2 => by have := dm0 k h1; have := hS2 k h2; omega, fun k h1 h2 => by have := dm1 k h1; have := hS2 k h2; omega, fun k h => .inl h, fun k h => .inr (.inl h), fun k h => .inr (.inr (h)), ?_⟩, ?_, ?_⟩
  · intro k hk
    simp only [World.size_setCell]
    rcases hk with hk | hk | hk
    · have := dm0 k hk; omega
    · have := dm1 k hk; omega
    · have := dm2 k hk; omega
  · intro k hk
    rcases hk with hk | hk | hk
    · have := hS0 k hk; omega
    · have := hS1 k hk; omega
    · have := hS2 k hk; omega
  · exact (((KEEP.out.setCell (p := ⟨w.heap.size + 1, 0, none⟩) (by simp) _).setCell (p := ⟨w.heap.size + 1, 1, none⟩) (by simp) _).setCell (p := ⟨w.heap.size + 1, 2, none⟩) (by simp) _)
set_option maxHeartbeats 400000 in
theorem eqPres_ok : EqOk 21 spPres := by
  intro v u x w h h'
  obtain ⟨A0, n0, c0, A1, n1, c1, A2, n2, c2, rfl, r0, r1, r2⟩ := spPres_form h
  obtain ⟨A'0, n'0, c'0, A'1, n'1, c'1, A'2, n'2, c'2, rfl, r0', r1', r2'⟩ := spPres_form h'
  have L0 : Below w.heap.size w ((w.alloc (.cells [.slice A0 n0 c0, .slice A1 n1 c1, .slice A2 n2 c2].toArray 29)).alloc (.cells [.slice A'0 n'0 c'0, .slice A'1 n'1 c'1, .slice A'2 n'2 c'2].toArray 29)) := by go_grown
  have Z0 : w.heap.size + 1 < (((w.alloc (.cells [.slice A0 n0 c0, .slice A1 n1 c1, .slice A2 n2 c2].toArray 29)).alloc (.cells [.slice A'0 n'0 c'0, .slice A'1 n'1 c'1, .slice A'2 n'2 c'2].toArray 29))).heap.size := by go_size
  have BA0 : Blk ((w.alloc (.cells [.slice A0 n0 c0, .slice A1 n1 c1, .slice A2 n2 c2].toArray 29)).alloc (.cells [.slice A'0 n'0 c'0, .slice A'1 n'1 c'1, .slice A'2 n'2 c'2].toArray 29)) w.heap.size [.slice A0 n0 c0, .slice A1 n1 c1, .slice A2 n2 c2] 29 := (Blk.new w [.slice A0 n0 c0, .slice A1 n1 c1, .slice A2 n2 c2] _).alloc _
  have BB0 : Blk ((w.alloc (.cells [.slice A0 n0 c0, .slice A1 n1 c1, .slice A2 n2 c2].toArray 29)).alloc (.cells [.slice A'0 n'0 c'0, .slice A'1 n'1 c'1, .slice A'2 n'2 c'2].toArray 29)) (w.heap.size + 1) [.slice A'0 n'0 c'0, .slice A'1 n'1 c'1, .slice A'2 n'2 c'2] 29 := by have := Blk.new (w.alloc (.cells [.slice A0 n0 c0, .slice A1 n1 c1, .slice A2 n2 c2].toArray 29)) [.slice A'0 n'0 c'0, .slice A'1 n'1 c'1, .slice A'2 n'2 c'2] 29; rwa [World.size_alloc] at this
  have R0 := Lib.hid (spI.rd_below r0 L0)
  have R0' := Lib.hid (spI.rd_below r0' L0)
  have R1 := Lib.hid (spII.rd_below r1 L0)
  have R1' := Lib.hid (spII.rd_below r1' L0)
  have R2 := Lib.hid (spIII.rd_below r2 L0)
  have R2' := Lib.hid (spIII.rd_below r2' L0)
  clear h h' r0 r1 r2 r0' r1' r2'
  go_enter Try.func21, Try.ntmps21
  go_wp2_with (fail)
  refine (eqI_ok _ _ x.O _ R0.out R0'.out).mono ?_; rintro e w1 ⟨rfl, hb0⟩
  have L1 := bstep L0 (by omega) hb0
  have Z1 : w.heap.size + 1 < w1.heap.size := Nat.lt_of_lt_of_le Z0 hb0.size
  have BA1 := BA0.below hb0
  have BB1 := BB0.below hb0
  obtain ⟨ca0l, ca0c0, ca0c1, ca0c2⟩ := BA1.c3
  obtain ⟨cb0l, cb0c0, cb0c1, cb0c2⟩ := BB1.c3
  replace R1 := Lib.hid (spII.rd_below R1.out hb0)
  replace R1' := Lib.hid (spII.rd_below R1'.out hb0)
  replace R2 := Lib.hid (spIII.rd_below R2.out hb0)
  replace R2' := Lib.hid (spIII.rd_below R2'.out hb0)
  clear hb0
  go_wp2_with (fail)
  refine (eqII_ok _ _ x.W _ R1.out R1'.out).mono ?_; rintro e w2 ⟨rfl, hb1⟩
  have L2 := bstep L1 (by omega) hb1
  have Z2 : w.heap.size + 1 < w2.heap.size := Nat.lt_of_lt_of_le Z1 hb1.size
  have BA2 := BA1.below hb1
  have BB2 := BB1.below hb1
  obtain ⟨ca1l, ca1c0, ca1c1, ca1c2⟩ := BA2.c3
  obtain ⟨cb1l, cb1c0, cb1c1, cb1c2⟩ := BB2.c3
  replace R2 := Lib.hid (spIII.rd_below R2.out hb1)
  replace R2' := Lib.hid (spIII.rd_below R2'.out hb1)
  clear hb1
  go_wp2_with (fail)
  refine (eqIII_ok _ _ x.J _ R2.out R2'.out).mono ?_; rintro e w3 ⟨rfl, hb2⟩
  have L3 := bstep L2 (by omega) hb2
  clear hb2
  go_wp2_with (fail)
  go_ret
  exact ⟨rfl, L3⟩
set_option maxHeartbeats 400000 in
theorem markPres_ok : MarkOk 25 spPres := by
  intro S v x k w h hk0 hk1
  obtain ⟨A0, n0, c0, A1, n1, c1, A2, n2, c2, rfl, _⟩ := spPres_form (spPres.own_rd h)
  replace hk1 : k + ((spI.cnt x.O + spII.cnt x.W + spIII.cnt x.J : Nat) : Int) ≤ 1000000000000000 := hk1
  show Calls _ _ _ _ fun e w' => e = .returned (.int .i64 (k + ((spI.cnt x.O + spII.cnt x.W + spIII.cnt x.J : Nat) : Int))) ∧ _ ∧ _
  obtain ⟨v0, v1, v2, T0, T1, T2, e, o0, o1, o2, d0, d1, d2, s0, s1, s2, hl⟩ := h
  simp only [Value.agg.injEq, Array.mk.injEq, List.cons.injEq, and_true, true_and] at e
  obtain ⟨rfl, rfl, rfl⟩ := e
  have C0 : ChgS S w (w.alloc (.cells [.slice A0 n0 c0, .slice A1 n1 c1, .slice A2 n2 c2].toArray 29)) := ChgS.of_below ((Below.refl _ _).alloc (Nat.le_refl _) _)
  have B0 := Blk.new w [.slice A0 n0 c0, .slice A1 n1 c1, .slice A2 n2 c2] 29
  have nb : ¬ S w.heap.size := fun hS => by have := hl _ hS; omega
  have O0 := Lib.hid (spI.own_alloc o0 (.cells [.slice A0 n0 c0, .slice A1 n1 c1, .slice A2 n2 c2].toArray 29))
  have O1 := Lib.hid (spII.own_alloc o1 (.cells [.slice A0 n0 c0, .slice A1 n1 c1, .slice A2 n2 c2].toArray 29))
  have O2 := Lib.hid (spIII.own_alloc o2 (.cells [.slice A0 n0 c0, .slice A1 n1 c1, .slice A2 n2 c2].toArray 29))
  clear o0 o1 o2
  have HC := Lib.hid (markI_ok _ _ _ k _ O0.out hk0 (by omega))
  go_enter Try.func25, Try.ntmps25
  go_wp2_with (fail)
  refine HC.out.mono ?_; rintro e w1 ⟨rfl, ow0, ch0⟩
  have C1 := C0.trans (ch0.mono s0)
  replace O0 := Lib.hid ow0
  have B1 := B0.chg ch0 (fun h => nb (s0 _ h))
  replace O1 := Lib.hid (spII.own_chg O1.out ch0 (fun k h1 h2 => d0 k h2 h1))
  replace O2 := Lib.hid (spIII.own_chg O2.out ch0 (fun k h1 h2 => d1 k h2 h1))
  have t0 : 0 ≤ k + (spI.cnt x.O : Int) := by omega
  have t0' : k + (spI.cnt x.O : Int) ≤ 1000000000000000 := by omega
  clear ow0 ch0 HC
  obtain ⟨cb0l, cb0c0, cb0c1, cb0c2⟩ := B1.c3
  have HC := Lib.hid (markII_ok _ _ _ (k + (spI.cnt x.O : Int)) _ O1.out t0 (by omega))
  go_wp2_with (fail)
  refine HC.out.mono ?_; rintro e w2 ⟨rfl, ow1, ch1⟩
  have C2 := C1.trans (ch1.mono s1)
  replace O1 := Lib.hid ow1
  have B2 := B1.chg ch1 (fun h => nb (s1 _ h))
  replace O0 := Lib.hid (spI.own_chg O0.out ch1 (fun k h1 h2 => d0 k h1 h2))
  replace O2 := Lib.hid (spIII.own_chg O2.out ch1 (fun k h1 h2 => d2 k h2 h1))
  have t1 : 0 ≤ k + (spI.cnt x.O : Int) + (spII.cnt x.W : Int) := by omega
  have t1' : k + (spI.cnt x.O : Int) + (spII.cnt x.W : Int) ≤ 1000000000000000 := by omega
  clear ow1 ch1 HC
  obtain ⟨cb1l, cb1c0, cb1c1, cb1c2⟩ := B2.c3
  have HC := Lib.hid (markIII_ok _ _ _ (k + (spI.cnt x.O : Int) + (spII.cnt x.W : Int)) _ O2.out t1 (by omega))
  go_wp2_with (fail)
  refine HC.out.mono ?_; rintro e w3 ⟨rfl, ow2, ch2⟩
  have C3 := C2.trans (ch2.mono s2)
  replace O2 := Lib.hid ow2
  have B3 := B2.chg ch2 (fun h => nb (s2 _ h))
  replace O0 := Lib.hid (spI.own_chg O0.out ch2 (fun k h1 h2 => d1 k h1 h2))
  replace O1 := Lib.hid (spII.own_chg O1.out ch2 (fun k h1 h2 => d2 k h1 h2))
  have t2 : 0 ≤ k + (spI.cnt x.O : Int) + (spII.cnt x.W : Int) + (spIII.cnt x.J : Int) := by omega
  have t2' : k + (spI.cnt x.O : Int) + (spII.cnt x.W : Int) + (spIII.cnt x.J : Int) ≤ 1000000000000000 := by omega
  clear ow2 ch2 HC
  have hq : ∀ q, S q → q < w3.heap.size := fun q hq => Nat.lt_of_lt_of_le (hl q hq) C3.size
  have E1 : Hid (k + (spI.cnt x.O : Int) + (spII.cnt x.W : Int) + (spIII.cnt x.J : Int) = k + ((spI.cnt x.O + spII.cnt x.W + spIII.cnt x.J : Nat) : Int)) := Lib.hid (by omega)
  have HO : Hid (spPres.own w3 S (.agg #[.slice A0 n0 c0, .slice A1 n1 c1, .slice A2 n2 c2]) (spPres.mark k x)) := Lib.hid ⟨_, _, _, T0, T1, T2, rfl, O0.out, O1.out, O2.out, d0, d1, d2, s0, s1, s2, hq⟩
  clear hq
  go_wp2_with (fail)
  go_ret
  exact ⟨by first | rfl | exact ret_i E1.out, HO.out, C3⟩
end Go.Proofs.Yteappjgdcbploaa
