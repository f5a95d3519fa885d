/- Contracts of the laws' helpers at Abelian: measure, copy, comparison, marks. -/
import Derived.Test.YtndldgmejmephaaKB
namespace Go.Proofs.Ytndldgmejmephaa
open Go.RowKit
set_option linter.unusedVariables false
set_option linter.unusedSimpArgs false

structure Ab where
  F : List Int
  K : Int
def spAb : Sp Ab where
  rd w v x := ∃ v0, v = .agg #[v0, .int .i64 x.K] ∧ spI.rd w v0 x.F
  own w S v x := ∃ (v0 : Value) (T0 : Nat → Prop), v = .agg #[v0, .int .i64 x.K] ∧ spI.own w T0 v0 x.F ∧ (∀ k, T0 k → S k) ∧ ∀ k, S k → k < w.heap.size
  sz x := spI.sz x.F
  cnt x := spI.cnt x.F
  mark k x := { x with F := spI.mark (k) x.F }
  rd_keep := fun ⟨v0, e, r0⟩ hz hk => ⟨v0, e, spI.rd_keep r0 hz hk⟩
  own_keep := fun {w w' S v x} ⟨v0, T0, e, o0, s0, hl⟩ hk => ⟨v0, T0, e, spI.own_keep o0 (fun k h => hk k (s0 k h)), s0, fun k hS => heap_lt (hl k hS) (hk k hS)⟩
  own_lt := fun ⟨_, _, _, _, _, hl⟩ hS => hl _ hS
  own_rd := fun ⟨v0, T0, e, o0, s0, hl⟩ => ⟨v0, e, spI.own_rd o0⟩

theorem spAb_cnt (x : Ab) : spAb.cnt x ≤ spAb.sz x := by
  show spI.cnt x.F ≤ spI.sz x.F
  have e0 := spI_cnt x.F
  omega
theorem spAb_form {w : World} {v : Value} {x : Ab} (h : spAb.rd w v x) : ∃ A0 n0 c0, v = .agg #[.slice A0 n0 c0, .int .i64 x.K] ∧ spI.rd w (.slice A0 n0 c0) x.F := by
  obtain ⟨v0, rfl, r0⟩ := h
  obtain ⟨A0, c0, rfl, m0, q0⟩ := r0
  exact ⟨A0, _, c0, rfl, ⟨A0, c0, rfl, m0, q0⟩⟩
set_option maxHeartbeats 400000 in
theorem szAb_ok : SzOk 11 spAb := by
  intro v x left w h h0 hl
  obtain ⟨A0, n0, c0, rfl, r0⟩ := spAb_form h
  show Calls _ _ _ _ fun e w' => e = .returned (.int .i64 (szLeft (spI.sz x.F) left)) ∧ _
  have L0 : Below w.heap.size w (w.alloc (.cells [.slice A0 n0 c0, .int .i64 x.K].toArray 24)) := by go_grown
  have B0 := Blk.new w [.slice A0 n0 c0, .int .i64 x.K] 24
  have Z0 : w.heap.size ≤ (w.alloc (.cells [.slice A0 n0 c0, .int .i64 x.K].toArray 24)).heap.size := by go_size
  have R0 := Lib.hid (spI.rd_below r0 ((Below.refl _ _).alloc (Nat.le_refl _) (.cells [.slice A0 n0 c0, .int .i64 x.K].toArray 24)))
  clear h r0
  have HC := Lib.hid (szI_ok _ _ left _ R0.out h0 hl)
  by_cases f0 : (spI.sz x.F : Int) ≤ left
  · have e1 := szLeft_yes f0
    rw [e1] at HC
    clear e1
    have p0 : 0 ≤ left - (spI.sz x.F : Int) := by omega
    have q0 : left - (spI.sz x.F : Int) ≤ 1048576 := by omega
    go_enter Try.func11, Try.ntmps11
    go_wp2_with (fail)
    refine HC.out.mono ?_; rintro e w1 ⟨rfl, hb1⟩
    have L1 := bstep L0 Z0 hb1
    have Z1 : w.heap.size ≤ w1.heap.size := L1.size
    have B1 := B0.below hb1
    have HB : Hid (left - (spI.sz x.F : Int) = szLeft (spI.sz x.F) left) := Lib.hid (by have e := szLeft_yes (n := spI.sz x.F) (left := left) (by omega); omega)
    clear hb1
    go_wp2_with (fail)
    go_ret
    exact ⟨ret_i HB.out, L1⟩
  · have e1 := szLeft_no (n := spI.sz x.F) (left := left) (by omega)
    rw [e1] at HC
    have HB : Hid (szLeft (spI.sz x.F) left = -1) := Lib.hid (szLeft_no (by omega))
    clear e1 f0
    go_enter Try.func11, Try.ntmps11
    go_wp2_with (fail)
    refine HC.out.mono ?_; rintro e w1 ⟨rfl, hb1⟩
    have L1 := bstep L0 Z0 hb1
    go_wp2_with (fail)
    go_ret
    exact ⟨ret_i HB.out.symm, L1⟩
set_option maxHeartbeats 1000000 in
set_option maxRecDepth 100000 in
theorem toAb_ok : ToOk 13 spAb := by
  intro v x w h hs
  obtain ⟨A0, n0, c0, rfl, r0⟩ := spAb_form h
  replace hs : spI.sz x.F ≤ 1048576 := hs
  have L0 : Below w.heap.size w (((w.alloc (.cells [.slice A0 n0 c0, .int .i64 x.K].toArray 24)).alloc (.cells [.slice none 0 0, (.int .i64 0 : Value)].toArray 26)).alloc (.cells [.slice none 0 0, (.int .i64 0 : Value)].toArray 26)) := by go_grown
  have Z0 : w.heap.size + 1 + 1 < ((((w.alloc (.cells [.slice A0 n0 c0, .int .i64 x.K].toArray 24)).alloc (.cells [.slice none 0 0, (.int .i64 0 : Value)].toArray 26)).alloc (.cells [.slice none 0 0, (.int .i64 0 : Value)].toArray 26))).heap.size := by go_size
  have BA0 : Blk (((w.alloc (.cells [.slice A0 n0 c0, .int .i64 x.K].toArray 24)).alloc (.cells [.slice none 0 0, (.int .i64 0 : Value)].toArray 26)).alloc (.cells [.slice none 0 0, (.int .i64 0 : Value)].toArray 26)) w.heap.size [.slice A0 n0 c0, .int .i64 x.K] 24 := ((Blk.new w [.slice A0 n0 c0, .int .i64 x.K] _).alloc _).alloc _
  have BR0 : Blk (((w.alloc (.cells [.slice A0 n0 c0, .int .i64 x.K].toArray 24)).alloc (.cells [.slice none 0 0, (.int .i64 0 : Value)].toArray 26)).alloc (.cells [.slice none 0 0, (.int .i64 0 : Value)].toArray 26)) (w.heap.size + 1) [.slice none 0 0, (.int .i64 0 : Value)] 26 := by have := (Blk.new (w.alloc (.cells [.slice A0 n0 c0, .int .i64 x.K].toArray 24)) [.slice none 0 0, (.int .i64 0 : Value)] 26).alloc (.cells [.slice none 0 0, (.int .i64 0 : Value)].toArray 26); rwa [World.size_alloc] at this
  have BO0 : Blk (((w.alloc (.cells [.slice A0 n0 c0, .int .i64 x.K].toArray 24)).alloc (.cells [.slice none 0 0, (.int .i64 0 : Value)].toArray 26)).alloc (.cells [.slice none 0 0, (.int .i64 0 : Value)].toArray 26)) (w.heap.size + 1 + 1) [.slice none 0 0, (.int .i64 0 : Value)] 26 := by have := Blk.new ((w.alloc (.cells [.slice A0 n0 c0, .int .i64 x.K].toArray 24)).alloc (.cells [.slice none 0 0, (.int .i64 0 : Value)].toArray 26)) [.slice none 0 0, (.int .i64 0 : Value)] 26; rwa [World.size_alloc, World.size_alloc] at this
  have R0 := Lib.hid (spI.rd_alloc (spI.rd_alloc (spI.rd_alloc r0 (.cells [.slice A0 n0 c0, .int .i64 x.K].toArray 24)) (.cells [.slice none 0 0, (.int .i64 0 : Value)].toArray 26)) (.cells [.slice none 0 0, (.int .i64 0 : Value)].toArray 26))
  clear h r0
  have HC := Lib.hid (toI_ok _ _ _ R0.out (by omega))
  go_enter Try.func13, Try.ntmps13
  go_wp2_with (fail)
  refine HC.out.mono ?_; rintro e w1 ⟨u0, S0, rfl, ow0, hS0, hb0⟩
  obtain ⟨U0, d0, rfl, -, -⟩ := spI.own_rd ow0
  replace HC := trivial
  have hx0 : ∃ x0, x0 = x.F.length := ⟨_, rfl⟩
  obtain ⟨x0, hx0⟩ := hx0
  rw [← hx0] at ow0 ⊢
  have HX0 := Lib.hid hx0
  clear hx0
  have L0b := bstep L0 (by omega) hb0
  have Z0b : w.heap.size + 1 + 1 < w1.heap.size := Nat.lt_of_lt_of_le Z0 hb0.size
  have BA0b := BA0.below hb0
  have BR0b := BR0.below hb0
  have BO0b := BO0.below hb0
  have nS0 : ¬ S0 (w.heap.size + 1 + 1) := fun hs' => by have := hS0 _ hs'; omega
  have nr0 : ¬ S0 (w.heap.size + 1) := fun hs' => by have := hS0 _ hs'; omega
  have oo0 := spI.own_set (spI.own_set ow0 (p := ⟨w.heap.size + 1 + 1, 0, none⟩) nS0 (.slice U0 x0 d0)) (p := ⟨w.heap.size + 1 + 1, 1, none⟩) nS0 (.int .i64 x.K)
  have dm0 : ∀ k, S0 k → k < w1.heap.size := fun k hk => spI.own_lt ow0 hk
  have L1 := (L0b.setCell (p := ⟨w.heap.size + 1 + 1, 0, none⟩) (by simp; omega) (.slice U0 x0 d0)).setCell (p := ⟨w.heap.size + 1 + 1, 1, none⟩) (by simp; omega) (.int .i64 x.K)
  have fo0 := BO0b.free 0
  have fo1 := BO0b.free 1
  obtain ⟨ca0l, ca0c0, ca0c1⟩ := BA0b.c2
  obtain ⟨co0l, co0c0, co0c1⟩ := BO0b.c2
  obtain ⟨cr0l, cr0c0, cr0c1⟩ := BR0b.c2
  have fr0 := BR0b.free 0
  have fr1 := BR0b.free 1
  have t1 : w.heap.size + 1 < w1.heap.size := by omega
  have KEEP := Lib.hid L1
  have OO0 := Lib.hid oo0
  clear hb0
  go_wp2_with (fail)
  refine bodyPost_ret (v := .agg #[.slice U0 x0 d0, .int .i64 x.K]) (by simp [results, Try.results13, go_sem, t1, Z0b, co0c0, cr0c0, co0c1, cr0c1]) rfl ?_
  refine ⟨.agg #[.slice U0 x0 d0, .int .i64 x.K], (fun k => S0 k), rfl, ⟨.slice U0 x0 d0, S0, by simp [HX0.out], (spI.own_set (spI.own_set OO0.out (p := ⟨w.heap.size + 1, 0, none⟩) nr0 _) (p := ⟨w.heap.size + 1, 1, none⟩) nr0 _), fun k h => h, ?_⟩, ?_, ?_⟩
  · intro k hk
    simp only [World.size_setCell]
    exact Nat.lt_of_lt_of_le (dm0 k hk) (Nat.le_refl _)
  · intro k hk
    have := hS0 k hk; omega
  · exact ((KEEP.out.setCell (p := ⟨w.heap.size + 1, 0, none⟩) (by simp) _).setCell (p := ⟨w.heap.size + 1, 1, none⟩) (by simp) _)
set_option maxHeartbeats 400000 in
theorem eqAb_ok : EqOk 15 spAb := by
  intro v u x w h h'
  obtain ⟨A0, n0, c0, rfl, r0⟩ := spAb_form h
  obtain ⟨A'0, n'0, c'0, rfl, r0'⟩ := spAb_form h'
  have L0 : Below w.heap.size w ((w.alloc (.cells [.slice A0 n0 c0, .int .i64 x.K].toArray 26)).alloc (.cells [.slice A'0 n'0 c'0, .int .i64 x.K].toArray 26)) := by go_grown
  have Z0 : w.heap.size + 1 < (((w.alloc (.cells [.slice A0 n0 c0, .int .i64 x.K].toArray 26)).alloc (.cells [.slice A'0 n'0 c'0, .int .i64 x.K].toArray 26))).heap.size := by go_size
  have BA0 : Blk ((w.alloc (.cells [.slice A0 n0 c0, .int .i64 x.K].toArray 26)).alloc (.cells [.slice A'0 n'0 c'0, .int .i64 x.K].toArray 26)) w.heap.size [.slice A0 n0 c0, .int .i64 x.K] 26 := (Blk.new w [.slice A0 n0 c0, .int .i64 x.K] _).alloc _
  have BB0 : Blk ((w.alloc (.cells [.slice A0 n0 c0, .int .i64 x.K].toArray 26)).alloc (.cells [.slice A'0 n'0 c'0, .int .i64 x.K].toArray 26)) (w.heap.size + 1) [.slice A'0 n'0 c'0, .int .i64 x.K] 26 := by have := Blk.new (w.alloc (.cells [.slice A0 n0 c0, .int .i64 x.K].toArray 26)) [.slice A'0 n'0 c'0, .int .i64 x.K] 26; rwa [World.size_alloc] at this
  have R0 := Lib.hid (spI.rd_below r0 L0)
  have R0' := Lib.hid (spI.rd_below r0' L0)
  clear h h' r0 r0'
  go_enter Try.func15, Try.ntmps15
  go_wp2_with (fail)
  refine (eqI_ok _ _ x.F _ R0.out R0'.out).mono ?_; rintro e w1 ⟨rfl, hb0⟩
  have L1 := bstep L0 (by omega) hb0
  obtain ⟨ca0l, ca0c0, ca0c1⟩ := (BA0.below hb0).c2
  obtain ⟨cb0l, cb0c0, cb0c1⟩ := (BB0.below hb0).c2
  clear hb0
  go_wp2_with (fail)
  go_ret
  exact ⟨rfl, L1⟩
set_option maxHeartbeats 400000 in
theorem markAb_ok : MarkOk 16 spAb := by
  intro S v x k w h hk0 hk1
  obtain ⟨A0, n0, c0, rfl, _⟩ := spAb_form (spAb.own_rd h)
  replace hk1 : k + ((spI.cnt x.F : Nat) : Int) ≤ 1000000000000000 := hk1
  show Calls _ _ _ _ fun e w' => e = .returned (.int .i64 (k + ((spI.cnt x.F : Nat) : Int))) ∧ _ ∧ _
  obtain ⟨v0, T0, e, o0, s0, hl⟩ := h
  simp only [Value.agg.injEq, Array.mk.injEq, List.cons.injEq, and_true, true_and] at e
  obtain rfl := e
  have C0 : ChgS S w (w.alloc (.cells [.slice A0 n0 c0, .int .i64 x.K].toArray 26)) := ChgS.of_below ((Below.refl _ _).alloc (Nat.le_refl _) _)
  have B0 := Blk.new w [.slice A0 n0 c0, .int .i64 x.K] 26
  have nb : ¬ S w.heap.size := fun hS => by have := hl _ hS; omega
  have O0 := Lib.hid (spI.own_alloc o0 (.cells [.slice A0 n0 c0, .int .i64 x.K].toArray 26))
  clear o0
  have HC := Lib.hid (markI_ok _ _ _ k _ O0.out hk0 (by omega))
  go_enter Try.func16, Try.ntmps16
  go_wp2_with (fail)
  refine HC.out.mono ?_; rintro e w1 ⟨rfl, ow0, ch0⟩
  have C1 := C0.trans (ch0.mono s0)
  replace O0 := Lib.hid ow0
  have B1 := B0.chg ch0 (fun h => nb (s0 _ h))
  have t0 : 0 ≤ k + (spI.cnt x.F : Int) := by omega
  have t0' : k + (spI.cnt x.F : Int) ≤ 1000000000000000 := by omega
  clear ow0 ch0 HC
  have hq : ∀ q, S q → q < w1.heap.size := fun q hq => Nat.lt_of_lt_of_le (hl q hq) C1.size
  have E1 : Hid (k + (spI.cnt x.F : Int) = k + ((spI.cnt x.F : Nat) : Int)) := Lib.hid (by omega)
  have HO : Hid (spAb.own w1 S (.agg #[.slice A0 n0 c0, .int .i64 x.K]) (spAb.mark k x)) := Lib.hid ⟨_, T0, rfl, O0.out, s0, hq⟩
  clear hq
  go_wp2_with (fail)
  go_ret
  exact ⟨by first | rfl | exact ret_i E1.out, HO.out, C1⟩
set_option maxHeartbeats 400000 in
theorem heldAb_ok : HeldOk 17 spAb := by
  intro v x k w h hk0 hk1
  obtain ⟨A0, n0, c0, rfl, r0⟩ := spAb_form h
  replace hk1 : k + ((spI.cnt x.F : Nat) : Int) ≤ 1000000000000000 := hk1
  show Calls _ _ _ _ fun e w' => e = .returned (.int .i64 (k + ((spI.cnt x.F : Nat) : Int))) ∧ _
  have L0 : Below w.heap.size w (w.alloc (.cells [.slice A0 n0 c0, .int .i64 x.K].toArray 26)) := by go_grown
  have Z0 : w.heap.size ≤ ((w.alloc (.cells [.slice A0 n0 c0, .int .i64 x.K].toArray 26))).heap.size := by go_size
  have B0 := Blk.new w [.slice A0 n0 c0, .int .i64 x.K] 26
  have R0 := Lib.hid (spI.rd_alloc r0 (.cells [.slice A0 n0 c0, .int .i64 x.K].toArray 26))
  clear h r0
  have HC := Lib.hid (heldI_ok _ x.F k _ R0.out hk0 (by omega))
  go_enter Try.func17, Try.ntmps17
  go_wp2_with (fail)
  refine HC.out.mono ?_; rintro e w1 ⟨rfl, hb0⟩
  have L1 := bstep L0 Z0 hb0
  have Z1 : w.heap.size ≤ w1.heap.size := L1.size
  have B1 := B0.below hb0
  have t0 : 0 ≤ k + (spI.cnt x.F : Int) := by omega
  have t0' : k + (spI.cnt x.F : Int) ≤ 1000000000000000 := by omega
  clear hb0 HC
  have E1 : Hid (k + (spI.cnt x.F : Int) = k + ((spI.cnt x.F : Nat) : Int)) := Lib.hid (by omega)
  go_wp2_with (fail)
  go_ret
  exact ⟨by first | rfl | exact ret_i E1.out, L1⟩
end Go.Proofs.Ytndldgmejmephaa
