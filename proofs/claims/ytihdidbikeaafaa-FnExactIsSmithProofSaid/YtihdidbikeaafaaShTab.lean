/- Contracts of the laws' helpers at Table: measure, copy, comparison, marks. -/
import Derived.Test.YtihdidbikeaafaaKB
namespace Go.Proofs.Ytihdidbikeaafaa
open Go.RowKit
set_option linter.unusedVariables false
set_option linter.unusedSimpArgs false

structure Tab where
  C : Int
  R : List (List Int)
def spTab : Sp Tab where
  rd w v x := ∃ v1, v = .agg #[.int .i64 x.C, v1] ∧ spII.rd w v1 x.R
  own w S v x := ∃ (v1 : Value) (T1 : Nat → Prop), v = .agg #[.int .i64 x.C, v1] ∧ spII.own w T1 v1 x.R ∧ (∀ k, T1 k → S k) ∧ ∀ k, S k → k < w.heap.size
  sz x := spII.sz x.R
  cnt x := spII.cnt x.R
  mark k x := { x with R := spII.mark (k) x.R }
  rd_keep := fun ⟨v1, e, r1⟩ hz hk => ⟨v1, e, spII.rd_keep r1 hz hk⟩
  own_keep := fun {w w' S v x} ⟨v1, T1, e, o1, s1, hl⟩ hk => ⟨v1, T1, e, spII.own_keep o1 (fun k h => hk k (s1 k h)), s1, fun k hS => heap_lt (hl k hS) (hk k hS)⟩
  own_lt := fun ⟨_, _, _, _, _, hl⟩ hS => hl _ hS
  own_rd := fun ⟨v1, T1, e, o1, s1, hl⟩ => ⟨v1, e, spII.own_rd o1⟩

theorem spTab_cnt (x : Tab) : spTab.cnt x ≤ spTab.sz x := by
  show spII.cnt x.R ≤ spII.sz x.R
  have e1 := spII_cnt x.R
  omega
theorem spTab_form {w : World} {v : Value} {x : Tab} (h : spTab.rd w v x) : ∃ A1 n1 c1, v = .agg #[.int .i64 x.C, .slice A1 n1 c1] ∧ spII.rd w (.slice A1 n1 c1) x.R := by
  obtain ⟨v1, rfl, r1⟩ := h
  obtain ⟨A1, c1, rfl, m1, q1⟩ := r1
  exact ⟨A1, _, c1, rfl, ⟨A1, c1, rfl, m1, q1⟩⟩
set_option maxHeartbeats 400000 in
theorem szTab_ok : SzOk 14 spTab := by
  intro v x left w h h0 hl
  obtain ⟨A1, n1, c1, rfl, r1⟩ := spTab_form h
  show Calls _ _ _ _ fun e w' => e = .returned (.int .i64 (szLeft (spII.sz x.R) left)) ∧ _
  have L0 : Below w.heap.size w (w.alloc (.cells [.int .i64 x.C, .slice A1 n1 c1].toArray 24)) := by go_grown
  have B0 := Blk.new w [.int .i64 x.C, .slice A1 n1 c1] 24
  have Z0 : w.heap.size ≤ (w.alloc (.cells [.int .i64 x.C, .slice A1 n1 c1].toArray 24)).heap.size := by go_size
  have R1 := Lib.hid (spII.rd_below r1 ((Below.refl _ _).alloc (Nat.le_refl _) (.cells [.int .i64 x.C, .slice A1 n1 c1].toArray 24)))
  clear h r1
  have HC := Lib.hid (szII_ok _ _ left _ R1.out h0 hl)
  by_cases f0 : (spII.sz x.R : Int) ≤ left
  · have e1 := szLeft_yes f0
    rw [e1] at HC
    clear e1
    have p0 : 0 ≤ left - (spII.sz x.R : Int) := by omega
    have q0 : left - (spII.sz x.R : Int) ≤ 1048576 := by omega
    go_enter Try.func14, Try.ntmps14
    go_wp2_with (fail)
    refine HC.out.mono ?_; rintro e w1 ⟨rfl, hb1⟩
    have L1 := bstep L0 Z0 hb1
    have Z1 : w.heap.size ≤ w1.heap.size := L1.size
    have B1 := B0.below hb1
    have HB : Hid (left - (spII.sz x.R : Int) = szLeft (spII.sz x.R) left) := Lib.hid (by have e := szLeft_yes (n := spII.sz x.R) (left := left) (by omega); omega)
    clear hb1
    go_wp2_with (fail)
    go_ret
    exact ⟨ret_i HB.out, L1⟩
  · have e1 := szLeft_no (n := spII.sz x.R) (left := left) (by omega)
    rw [e1] at HC
    have HB : Hid (szLeft (spII.sz x.R) left = -1) := Lib.hid (szLeft_no (by omega))
    clear e1 f0
    go_enter Try.func14, Try.ntmps14
    go_wp2_with (fail)
    refine HC.out.mono ?_; rintro e w1 ⟨rfl, hb1⟩
    have L1 := bstep L0 Z0 hb1
    go_wp2_with (fail)
    go_ret
    exact ⟨ret_i HB.out.symm, L1⟩
set_option maxHeartbeats 1000000 in
set_option maxRecDepth 100000 in
theorem toTab_ok : ToOk 16 spTab := by
  intro v x w h hs
  obtain ⟨A1, n1, c1, rfl, r1⟩ := spTab_form h
  replace hs : spII.sz x.R ≤ 1048576 := hs
  have L0 : Below w.heap.size w (((w.alloc (.cells [.int .i64 x.C, .slice A1 n1 c1].toArray 24)).alloc (.cells [(.int .i64 0 : Value), .slice none 0 0].toArray 28)).alloc (.cells [.int .i64 x.C, .slice none 0 0].toArray 28)) := by go_grown
  have Z0 : w.heap.size + 1 + 1 < ((((w.alloc (.cells [.int .i64 x.C, .slice A1 n1 c1].toArray 24)).alloc (.cells [(.int .i64 0 : Value), .slice none 0 0].toArray 28)).alloc (.cells [.int .i64 x.C, .slice none 0 0].toArray 28))).heap.size := by go_size
  have BA0 : Blk (((w.alloc (.cells [.int .i64 x.C, .slice A1 n1 c1].toArray 24)).alloc (.cells [(.int .i64 0 : Value), .slice none 0 0].toArray 28)).alloc (.cells [.int .i64 x.C, .slice none 0 0].toArray 28)) w.heap.size [.int .i64 x.C, .slice A1 n1 c1] 24 := ((Blk.new w [.int .i64 x.C, .slice A1 n1 c1] _).alloc _).alloc _
  have BR0 : Blk (((w.alloc (.cells [.int .i64 x.C, .slice A1 n1 c1].toArray 24)).alloc (.cells [(.int .i64 0 : Value), .slice none 0 0].toArray 28)).alloc (.cells [.int .i64 x.C, .slice none 0 0].toArray 28)) (w.heap.size + 1) [(.int .i64 0 : Value), .slice none 0 0] 28 := by have := (Blk.new (w.alloc (.cells [.int .i64 x.C, .slice A1 n1 c1].toArray 24)) [(.int .i64 0 : Value), .slice none 0 0] 28).alloc (.cells [.int .i64 x.C, .slice none 0 0].toArray 28); rwa [World.size_alloc] at this
  have BO0 : Blk (((w.alloc (.cells [.int .i64 x.C, .slice A1 n1 c1].toArray 24)).alloc (.cells [(.int .i64 0 : Value), .slice none 0 0].toArray 28)).alloc (.cells [.int .i64 x.C, .slice none 0 0].toArray 28)) (w.heap.size + 1 + 1) [.int .i64 x.C, .slice none 0 0] 28 := by have := Blk.new ((w.alloc (.cells [.int .i64 x.C, .slice A1 n1 c1].toArray 24)).alloc (.cells [(.int .i64 0 : Value), .slice none 0 0].toArray 28)) [.int .i64 x.C, .slice none 0 0] 28; rwa [World.size_alloc, World.size_alloc] at this
  have R1 := Lib.hid (spII.rd_alloc (spII.rd_alloc (spII.rd_alloc r1 (.cells [.int .i64 x.C, .slice A1 n1 c1].toArray 24)) (.cells [(.int .i64 0 : Value), .slice none 0 0].toArray 28)) (.cells [.int .i64 x.C, .slice none 0 0].toArray 28))
  clear h r1
  have HC := Lib.hid (toII_ok _ _ _ R1.out (by omega))
  go_enter Try.func16, Try.ntmps16
  go_wp2_with (fail)
  refine HC.out.mono ?_; rintro e w1 ⟨u1, S1, rfl, ow1, hS1, hb1⟩
  obtain ⟨U1, d1, rfl, -, -⟩ := spII.own_rd ow1
  replace HC := trivial
  have hx1 : ∃ x1, x1 = x.R.length := ⟨_, rfl⟩
  obtain ⟨x1, hx1⟩ := hx1
  rw [← hx1] at ow1 ⊢
  have HX1 := Lib.hid hx1
  clear hx1
  have L0b := bstep L0 (by omega) hb1
  have Z0b : w.heap.size + 1 + 1 < w1.heap.size := Nat.lt_of_lt_of_le Z0 hb1.size
  have BA0b := BA0.below hb1
  have BR0b := BR0.below hb1
  have BO0b := BO0.below hb1
  have nS1 : ¬ S1 (w.heap.size + 1 + 1) := fun hs' => by have := hS1 _ hs'; omega
  have oo1 := spII.own_set ow1 (p := ⟨w.heap.size + 1 + 1, 1, none⟩) nS1 (.slice U1 x1 d1)
  have dm1 : ∀ k, S1 k → k < w1.heap.size := fun k hk => spII.own_lt ow1 hk
  have L1 := L0b.setCell (p := ⟨w.heap.size + 1 + 1, 1, none⟩) (by simp; omega) (.slice U1 x1 d1)
  have Z1 : w.heap.size + 1 + 1 < (w1.setCell ⟨w.heap.size + 1 + 1, 1, none⟩ (.slice U1 x1 d1)).heap.size := by simpa using Z0b
  have BA1 := BA0b.other (p := ⟨w.heap.size + 1 + 1, 1, none⟩) (by simp; omega) (.slice U1 x1 d1)
  have BR1 := BR0b.other (p := ⟨w.heap.size + 1 + 1, 1, none⟩) (by simp) (.slice U1 x1 d1)
  have BO1 := BO0b.set 1 (.slice U1 x1 d1)
  simp only [List.set] at BO1
  have fo1 := BO0b.free 1
  obtain ⟨ca1l, ca1c0, ca1c1⟩ := BA0b.c2
  obtain ⟨co1l, co1c0, co1c1⟩ := BO0b.c2
  obtain ⟨cr1l, cr1c0, cr1c1⟩ := BR0b.c2
  have fr0 := BR0b.free 0
  have fr1 := BR0b.free 1
  have t1 : w.heap.size + 1 < w1.heap.size := by omega
  have KEEP := Lib.hid L1
  have OO1 := Lib.hid oo1
  clear hb1
  go_wp2_with (fail)
  refine bodyPost_ret (v := .agg #[.int .i64 x.C, .slice U1 x1 d1]) (by simp [results, Try.results16, go_sem, t1, Z0b, co1c0, cr1c0, co1c1, cr1c1]) rfl ?_
  have nr1 : ¬ S1 (w.heap.size + 1) := fun hs' => by have := hS1 _ hs'; omega
  refine ⟨.agg #[.int .i64 x.C, .slice U1 x1 d1], (fun k => S1 k), rfl, ⟨.slice U1 x1 d1, S1, by simp [HX1.out], (spII.own_set (spII.own_set OO1.out (p := ⟨w.heap.size + 1, 0, none⟩) nr1 _) (p := ⟨w.heap.size + 1, 1, none⟩) nr1 _), fun k h => h, ?_⟩, ?_, ?_⟩
  · intro k hk
    simp only [World.size_setCell]
    exact Nat.lt_of_lt_of_le (dm1 k hk) (Nat.le_refl _)
  · intro k hk
    have := hS1 k hk; omega
  · exact ((KEEP.out.setCell (p := ⟨w.heap.size + 1, 0, none⟩) (by simp) _).setCell (p := ⟨w.heap.size + 1, 1, none⟩) (by simp) _)
set_option maxHeartbeats 400000 in
theorem eqTab_ok : EqOk 19 spTab := by
  intro v u x w h h'
  obtain ⟨A1, n1, c1, rfl, r1⟩ := spTab_form h
  obtain ⟨A'1, n'1, c'1, rfl, r1'⟩ := spTab_form h'
  have L0 : Below w.heap.size w ((w.alloc (.cells [.int .i64 x.C, .slice A1 n1 c1].toArray 28)).alloc (.cells [.int .i64 x.C, .slice A'1 n'1 c'1].toArray 28)) := by go_grown
  have Z0 : w.heap.size + 1 < (((w.alloc (.cells [.int .i64 x.C, .slice A1 n1 c1].toArray 28)).alloc (.cells [.int .i64 x.C, .slice A'1 n'1 c'1].toArray 28))).heap.size := by go_size
  have BA0 : Blk ((w.alloc (.cells [.int .i64 x.C, .slice A1 n1 c1].toArray 28)).alloc (.cells [.int .i64 x.C, .slice A'1 n'1 c'1].toArray 28)) w.heap.size [.int .i64 x.C, .slice A1 n1 c1] 28 := (Blk.new w [.int .i64 x.C, .slice A1 n1 c1] _).alloc _
  have BB0 : Blk ((w.alloc (.cells [.int .i64 x.C, .slice A1 n1 c1].toArray 28)).alloc (.cells [.int .i64 x.C, .slice A'1 n'1 c'1].toArray 28)) (w.heap.size + 1) [.int .i64 x.C, .slice A'1 n'1 c'1] 28 := by have := Blk.new (w.alloc (.cells [.int .i64 x.C, .slice A1 n1 c1].toArray 28)) [.int .i64 x.C, .slice A'1 n'1 c'1] 28; rwa [World.size_alloc] at this
  have R1 := Lib.hid (spII.rd_below r1 L0)
  have R1' := Lib.hid (spII.rd_below r1' L0)
  clear h h' r1 r1'
  go_enter Try.func19, Try.ntmps19
  go_wp2_with (fail)
  refine (eqII_ok _ _ x.R _ R1.out R1'.out).mono ?_; rintro e w1 ⟨rfl, hb1⟩
  have L1 := bstep L0 (by omega) hb1
  clear hb1
  go_wp2_with (fail)
  go_ret
  exact ⟨rfl, L1⟩
end Go.Proofs.Ytihdidbikeaafaa
