/- Contracts of the laws' helpers at Matrix: measure, copy, comparison, marks. -/
import Derived.Test.YtggkoihlmijacaaBlk
import Derived.Test.YtggkoihlmijacaaShII
namespace Go.Proofs.Ytggkoihlmijacaa
open Go.RowKit
set_option linter.unusedVariables false
set_option linter.unusedSimpArgs false

structure Mat where
  P : Int
  C : Int
  R : List (List Int)
def spMat : Sp Mat where
  rd w v x := ∃ v2, v = .agg #[.int .i64 x.P, .int .i64 x.C, v2] ∧ spII.rd w v2 x.R
  own w S v x := ∃ (v2 : Value) (T2 : Nat → Prop), v = .agg #[.int .i64 x.P, .int .i64 x.C, v2] ∧ spII.own w T2 v2 x.R ∧ (∀ k, T2 k → S k) ∧ ∀ k, S k → k < w.heap.size
  sz x := spII.sz x.R
  cnt x := spII.cnt x.R
  mark k x := { x with R := spII.mark (k) x.R }
  rd_keep := fun ⟨v2, e, r2⟩ hz hk => ⟨v2, e, spII.rd_keep r2 hz hk⟩
  own_keep := fun {w w' S v x} ⟨v2, T2, e, o2, s2, hl⟩ hk => ⟨v2, T2, e, spII.own_keep o2 (fun k h => hk k (s2 k h)), s2, fun k hS => heap_lt (hl k hS) (hk k hS)⟩
  own_lt := fun ⟨_, _, _, _, _, hl⟩ hS => hl _ hS
  own_rd := fun ⟨v2, T2, e, o2, s2, hl⟩ => ⟨v2, e, spII.own_rd o2⟩

theorem spMat_cnt (x : Mat) : spMat.cnt x ≤ spMat.sz x := by
  show spII.cnt x.R ≤ spII.sz x.R
  have e2 := spII_cnt x.R
  omega
theorem spMat_form {w : World} {v : Value} {x : Mat} (h : spMat.rd w v x) : ∃ A2 n2 c2, v = .agg #[.int .i64 x.P, .int .i64 x.C, .slice A2 n2 c2] ∧ spII.rd w (.slice A2 n2 c2) x.R := by
  obtain ⟨v2, rfl, r2⟩ := h
  obtain ⟨A2, c2, rfl, m2, q2⟩ := r2
  exact ⟨A2, _, c2, rfl, ⟨A2, c2, rfl, m2, q2⟩⟩
set_option maxHeartbeats 400000 in
theorem szMat_ok : SzOk 13 spMat := by
  intro v x left w h h0 hl
  obtain ⟨A2, n2, c2, rfl, r2⟩ := spMat_form h
  show Calls _ _ _ _ fun e w' => e = .returned (.int .i64 (szLeft (spII.sz x.R) left)) ∧ _
  have L0 : Below w.heap.size w (w.alloc (.cells [.int .i64 x.P, .int .i64 x.C, .slice A2 n2 c2].toArray 24)) := by go_grown
  have B0 := Blk.new w [.int .i64 x.P, .int .i64 x.C, .slice A2 n2 c2] 24
  have Z0 : w.heap.size ≤ (w.alloc (.cells [.int .i64 x.P, .int .i64 x.C, .slice A2 n2 c2].toArray 24)).heap.size := by go_size
  have R2 := Lib.hid (spII.rd_below r2 ((Below.refl _ _).alloc (Nat.le_refl _) (.cells [.int .i64 x.P, .int .i64 x.C, .slice A2 n2 c2].toArray 24)))
  clear h r2
  have HC := Lib.hid (szII_ok _ _ left _ R2.out h0 hl)
  by_cases f0 : (spII.sz x.R : Int) ≤ left
  · have e1 := szLeft_yes f0
    rw [e1] at HC
    clear e1
    have p0 : 0 ≤ left - (spII.sz x.R : Int) := by omega
    have q0 : left - (spII.sz x.R : Int) ≤ 1048576 := by omega
    go_enter Try.func13, Try.ntmps13
    go_wp2_with (fail)
    refine HC.out.mono ?_; rintro e w1 ⟨rfl, hb1⟩
    have L1 := bstep L0 Z0 hb1
    have Z1 : w.heap.size ≤ w1.heap.size := L1.size
    have B1 := B0.below hb1
    have HB : Hid (left - (spII.sz x.R : Int) = szLeft (spII.sz x.R) left) := Lib.hid (by have e := szLeft_yes (n := spII.sz x.R) (left := left) (by omega); omega)
    clear hb1
    go_wp2_with (fail)
    go_ret
    exact ⟨ret_i HB.out, L1⟩
  · have e1 := szLeft_no (n := spII.sz x.R) (left := left) (by omega)
    rw [e1] at HC
    have HB : Hid (szLeft (spII.sz x.R) left = -1) := Lib.hid (szLeft_no (by omega))
    clear e1 f0
    go_enter Try.func13, Try.ntmps13
    go_wp2_with (fail)
    refine HC.out.mono ?_; rintro e w1 ⟨rfl, hb1⟩
    have L1 := bstep L0 Z0 hb1
    go_wp2_with (fail)
    go_ret
    exact ⟨ret_i HB.out.symm, L1⟩
set_option maxHeartbeats 1000000 in
set_option maxRecDepth 100000 in
theorem toMat_ok : ToOk 15 spMat := by
  intro v x w h hs
  obtain ⟨A2, n2, c2, rfl, r2⟩ := spMat_form h
  replace hs : spII.sz x.R ≤ 1048576 := hs
  have L0 : Below w.heap.size w (((w.alloc (.cells [.int .i64 x.P, .int .i64 x.C, .slice A2 n2 c2].toArray 24)).alloc (.cells [(.int .i64 0 : Value), (.int .i64 0 : Value), .slice none 0 0].toArray 27)).alloc (.cells [.int .i64 x.P, .int .i64 x.C, .slice none 0 0].toArray 27)) := by go_grown
  have Z0 : w.heap.size + 1 + 1 < ((((w.alloc (.cells [.int .i64 x.P, .int .i64 x.C, .slice A2 n2 c2].toArray 24)).alloc (.cells [(.int .i64 0 : Value), (.int .i64 0 : Value), .slice none 0 0].toArray 27)).alloc (.cells [.int .i64 x.P, .int .i64 x.C, .slice none 0 0].toArray 27))).heap.size := by go_size
  have BA0 : Blk (((w.alloc (.cells [.int .i64 x.P, .int .i64 x.C, .slice A2 n2 c2].toArray 24)).alloc (.cells [(.int .i64 0 : Value), (.int .i64 0 : Value), .slice none 0 0].toArray 27)).alloc (.cells [.int .i64 x.P, .int .i64 x.C, .slice none 0 0].toArray 27)) w.heap.size [.int .i64 x.P, .int .i64 x.C, .slice A2 n2 c2] 24 := ((Blk.new w [.int .i64 x.P, .int .i64 x.C, .slice A2 n2 c2] _).alloc _).alloc _
  have BR0 : Blk (((w.alloc (.cells [.int .i64 x.P, .int .i64 x.C, .slice A2 n2 c2].toArray 24)).alloc (.cells [(.int .i64 0 : Value), (.int .i64 0 : Value), .slice none 0 0].toArray 27)).alloc (.cells [.int .i64 x.P, .int .i64 x.C, .slice none 0 0].toArray 27)) (w.heap.size + 1) [(.int .i64 0 : Value), (.int .i64 0 : Value), .slice none 0 0] 27 := by have := (Blk.new (w.alloc (.cells [.int .i64 x.P, .int .i64 x.C, .slice A2 n2 c2].toArray 24)) [(.int .i64 0 : Value), (.int .i64 0 : Value), .slice none 0 0] 27).alloc (.cells [.int .i64 x.P, .int .i64 x.C, .slice none 0 0].toArray 27); rwa [World.size_alloc] at this
  have BO0 : Blk (((w.alloc (.cells [.int .i64 x.P, .int .i64 x.C, .slice A2 n2 c2].toArray 24)).alloc (.cells [(.int .i64 0 : Value), (.int .i64 0 : Value), .slice none 0 0].toArray 27)).alloc (.cells [.int .i64 x.P, .int .i64 x.C, .slice none 0 0].toArray 27)) (w.heap.size + 1 + 1) [.int .i64 x.P, .int .i64 x.C, .slice none 0 0] 27 := by have := Blk.new ((w.alloc (.cells [.int .i64 x.P, .int .i64 x.C, .slice A2 n2 c2].toArray 24)).alloc (.cells [(.int .i64 0 : Value), (.int .i64 0 : Value), .slice none 0 0].toArray 27)) [.int .i64 x.P, .int .i64 x.C, .slice none 0 0] 27; rwa [World.size_alloc, World.size_alloc] at this
  have R2 := Lib.hid (spII.rd_alloc (spII.rd_alloc (spII.rd_alloc r2 (.cells [.int .i64 x.P, .int .i64 x.C, .slice A2 n2 c2].toArray 24)) (.cells [(.int .i64 0 : Value), (.int .i64 0 : Value), .slice none 0 0].toArray 27)) (.cells [.int .i64 x.P, .int .i64 x.C, .slice none 0 0].toArray 27))
  clear h r2
  have HC := Lib.hid (toII_ok _ _ _ R2.out (by omega))
  go_enter Try.func15, Try.ntmps15
  go_wp2_with (fail)
  refine HC.out.mono ?_; rintro e w1 ⟨u2, S2, rfl, ow2, hS2, hb2⟩
  obtain ⟨U2, d2, rfl, -, -⟩ := spII.own_rd ow2
  replace HC := trivial
  have hx2 : ∃ x2, x2 = x.R.length := ⟨_, rfl⟩
  obtain ⟨x2, hx2⟩ := hx2
  rw [← hx2] at ow2 ⊢
  have HX2 := Lib.hid hx2
  clear hx2
  have L0b := bstep L0 (by omega) hb2
  have Z0b : w.heap.size + 1 + 1 < w1.heap.size := Nat.lt_of_lt_of_le Z0 hb2.size
  have BA0b := BA0.below hb2
  have BR0b := BR0.below hb2
  have BO0b := BO0.below hb2
  have nS2 : ¬ S2 (w.heap.size + 1 + 1) := fun hs' => by have := hS2 _ hs'; omega
  have oo2 := spII.own_set ow2 (p := ⟨w.heap.size + 1 + 1, 2, none⟩) nS2 (.slice U2 x2 d2)
  have dm2 : ∀ k, S2 k → k < w1.heap.size := fun k hk => spII.own_lt ow2 hk
  have L1 := L0b.setCell (p := ⟨w.heap.size + 1 + 1, 2, none⟩) (by simp; omega) (.slice U2 x2 d2)
  have Z1 : w.heap.size + 1 + 1 < (w1.setCell ⟨w.heap.size + 1 + 1, 2, none⟩ (.slice U2 x2 d2)).heap.size := by simpa using Z0b
  have BA1 := BA0b.other (p := ⟨w.heap.size + 1 + 1, 2, none⟩) (by simp; omega) (.slice U2 x2 d2)
  have BR1 := BR0b.other (p := ⟨w.heap.size + 1 + 1, 2, none⟩) (by simp) (.slice U2 x2 d2)
  have BO1 := BO0b.set 2 (.slice U2 x2 d2)
  simp only [List.set] at BO1
  have fo2 := BO0b.free 2
  obtain ⟨ca2l, ca2c0, ca2c1, ca2c2⟩ := BA0b.c3
  obtain ⟨co2l, co2c0, co2c1, co2c2⟩ := BO0b.c3
  obtain ⟨cr2l, cr2c0, cr2c1, cr2c2⟩ := BR0b.c3
  have fr0 := BR0b.free 0
  have fr1 := BR0b.free 1
  have fr2 := BR0b.free 2
  have t1 : w.heap.size + 1 < w1.heap.size := by omega
  have KEEP := Lib.hid L1
  have OO2 := Lib.hid oo2
  clear hb2
  go_wp2_with (fail)
  refine bodyPost_ret (v := .agg #[.int .i64 x.P, .int .i64 x.C, .slice U2 x2 d2]) (by simp [results, Try.results15, go_sem, t1, Z0b, co2c0, cr2c0, co2c1, cr2c1, co2c2, cr2c2]) rfl ?_
  have nr2 : ¬ S2 (w.heap.size + 1) := fun hs' => by have := hS2 _ hs'; omega
  refine ⟨.agg #[.int .i64 x.P, .int .i64 x.C, .slice U2 x2 d2], (fun k => S2 k), rfl, ⟨.slice U2 x2 d2, S2, by simp [HX2.out], (spII.own_set (spII.own_set (spII.own_set OO2.out (p := ⟨w.heap.size + 1, 0, none⟩) nr2 _) (p := ⟨w.heap.size + 1, 1, none⟩) nr2 _) (p := ⟨w.heap.size + 1, 2, none⟩) nr2 _), fun k h => h, ?_⟩, ?_, ?_⟩
  · intro k hk
    simp only [World.size_setCell]
    exact Nat.lt_of_lt_of_le (dm2 k hk) (Nat.le_refl _)
  · intro k hk
    have := hS2 k hk; omega
  · exact (((KEEP.out.setCell (p := ⟨w.heap.size + 1, 0, none⟩) (by simp) _).setCell (p := ⟨w.heap.size + 1, 1, none⟩) (by simp) _).setCell (p := ⟨w.heap.size + 1, 2, none⟩) (by simp) _)
set_option maxHeartbeats 400000 in
theorem eqMat_ok : EqOk 17 spMat := by
  intro v u x w h h'
  obtain ⟨A2, n2, c2, rfl, r2⟩ := spMat_form h
  obtain ⟨A'2, n'2, c'2, rfl, r2'⟩ := spMat_form h'
  have L0 : Below w.heap.size w ((w.alloc (.cells [.int .i64 x.P, .int .i64 x.C, .slice A2 n2 c2].toArray 27)).alloc (.cells [.int .i64 x.P, .int .i64 x.C, .slice A'2 n'2 c'2].toArray 27)) := by go_grown
  have Z0 : w.heap.size + 1 < (((w.alloc (.cells [.int .i64 x.P, .int .i64 x.C, .slice A2 n2 c2].toArray 27)).alloc (.cells [.int .i64 x.P, .int .i64 x.C, .slice A'2 n'2 c'2].toArray 27))).heap.size := by go_size
  have BA0 : Blk ((w.alloc (.cells [.int .i64 x.P, .int .i64 x.C, .slice A2 n2 c2].toArray 27)).alloc (.cells [.int .i64 x.P, .int .i64 x.C, .slice A'2 n'2 c'2].toArray 27)) w.heap.size [.int .i64 x.P, .int .i64 x.C, .slice A2 n2 c2] 27 := (Blk.new w [.int .i64 x.P, .int .i64 x.C, .slice A2 n2 c2] _).alloc _
  have BB0 : Blk ((w.alloc (.cells [.int .i64 x.P, .int .i64 x.C, .slice A2 n2 c2].toArray 27)).alloc (.cells [.int .i64 x.P, .int .i64 x.C, .slice A'2 n'2 c'2].toArray 27)) (w.heap.size + 1) [.int .i64 x.P, .int .i64 x.C, .slice A'2 n'2 c'2] 27 := by have := Blk.new (w.alloc (.cells [.int .i64 x.P, .int .i64 x.C, .slice A2 n2 c2].toArray 27)) [.int .i64 x.P, .int .i64 x.C, .slice A'2 n'2 c'2] 27; rwa [World.size_alloc] at this
  have R2 := Lib.hid (spII.rd_below r2 L0)
  have R2' := Lib.hid (spII.rd_below r2' L0)
  clear h h' r2 r2'
  go_enter Try.func17, Try.ntmps17
  go_wp2_with (fail)
  refine (eqII_ok _ _ x.R _ R2.out R2'.out).mono ?_; rintro e w1 ⟨rfl, hb2⟩
  have L1 := bstep L0 (by omega) hb2
  clear hb2
  go_wp2_with (fail)
  go_ret
  exact ⟨rfl, L1⟩
set_option maxHeartbeats 400000 in
theorem markMat_ok : MarkOk 24 spMat := by
  intro S v x k w h hk0 hk1
  obtain ⟨A2, n2, c2, rfl, _⟩ := spMat_form (spMat.own_rd h)
  replace hk1 : k + ((spII.cnt x.R : Nat) : Int) ≤ 1000000000000000 := hk1
  show Calls _ _ _ _ fun e w' => e = .returned (.int .i64 (k + ((spII.cnt x.R : Nat) : Int))) ∧ _ ∧ _
  obtain ⟨v2, T2, e, o2, s2, hl⟩ := h
  simp only [Value.agg.injEq, Array.mk.injEq, List.cons.injEq, and_true, true_and] at e
  obtain rfl := e
  have C0 : ChgS S w (w.alloc (.cells [.int .i64 x.P, .int .i64 x.C, .slice A2 n2 c2].toArray 27)) := ChgS.of_below ((Below.refl _ _).alloc (Nat.le_refl _) _)
  have B0 := Blk.new w [.int .i64 x.P, .int .i64 x.C, .slice A2 n2 c2] 27
  have nb : ¬ S w.heap.size := fun hS => by have := hl _ hS; omega
  have O2 := Lib.hid (spII.own_alloc o2 (.cells [.int .i64 x.P, .int .i64 x.C, .slice A2 n2 c2].toArray 27))
  clear o2
  have HC := Lib.hid (markII_ok _ _ _ k _ O2.out hk0 (by omega))
  go_enter Try.func24, Try.ntmps24
  go_wp2_with (fail)
  refine HC.out.mono ?_; rintro e w1 ⟨rfl, ow2, ch2⟩
  have C1 := C0.trans (ch2.mono s2)
  replace O2 := Lib.hid ow2
  have B1 := B0.chg ch2 (fun h => nb (s2 _ h))
  have t2 : 0 ≤ k + (spII.cnt x.R : Int) := by omega
  have t2' : k + (spII.cnt x.R : Int) ≤ 1000000000000000 := by omega
  clear ow2 ch2 HC
  have hq : ∀ q, S q → q < w1.heap.size := fun q hq => Nat.lt_of_lt_of_le (hl q hq) C1.size
  have E1 : Hid (k + (spII.cnt x.R : Int) = k + ((spII.cnt x.R : Nat) : Int)) := Lib.hid (by omega)
  have HO : Hid (spMat.own w1 S (.agg #[.int .i64 x.P, .int .i64 x.C, .slice A2 n2 c2]) (spMat.mark k x)) := Lib.hid ⟨_, T2, rfl, O2.out, s2, hq⟩
  clear hq
  go_wp2_with (fail)
  go_ret
  exact ⟨by first | rfl | exact ret_i E1.out, HO.out, C1⟩
set_option maxHeartbeats 400000 in
theorem heldMat_ok : HeldOk 25 spMat := by
  intro v x k w h hk0 hk1
  obtain ⟨A2, n2, c2, rfl, r2⟩ := spMat_form h
  replace hk1 : k + ((spII.cnt x.R : Nat) : Int) ≤ 1000000000000000 := hk1
  show Calls _ _ _ _ fun e w' => e = .returned (.int .i64 (k + ((spII.cnt x.R : Nat) : Int))) ∧ _
  have L0 : Below w.heap.size w (w.alloc (.cells [.int .i64 x.P, .int .i64 x.C, .slice A2 n2 c2].toArray 27)) := by go_grown
  have Z0 : w.heap.size ≤ ((w.alloc (.cells [.int .i64 x.P, .int .i64 x.C, .slice A2 n2 c2].toArray 27))).heap.size := by go_size
  have B0 := Blk.new w [.int .i64 x.P, .int .i64 x.C, .slice A2 n2 c2] 27
  have R2 := Lib.hid (spII.rd_alloc r2 (.cells [.int .i64 x.P, .int .i64 x.C, .slice A2 n2 c2].toArray 27))
  clear h r2
  have HC := Lib.hid (heldII_ok _ x.R k _ R2.out hk0 (by omega))
  go_enter Try.func25, Try.ntmps25
  go_wp2_with (fail)
  refine HC.out.mono ?_; rintro e w1 ⟨rfl, hb2⟩
  have L1 := bstep L0 Z0 hb2
  have Z1 : w.heap.size ≤ w1.heap.size := L1.size
  have B1 := B0.below hb2
  have t2 : 0 ≤ k + (spII.cnt x.R : Int) := by omega
  have t2' : k + (spII.cnt x.R : Int) ≤ 1000000000000000 := by omega
  clear hb2 HC
  have E1 : Hid (k + (spII.cnt x.R : Int) = k + ((spII.cnt x.R : Nat) : Int)) := Lib.hid (by omega)
  go_wp2_with (fail)
  go_ret
  exact ⟨by first | rfl | exact ret_i E1.out, L1⟩
end Go.Proofs.Ytggkoihlmijacaa
