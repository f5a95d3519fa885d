/- The walk of the exact law of IsMatrix. -/
import Derived.Test.YtbmjkkcjiofkpaaL02A
import Derived.Test.YtbmjkkcjiofkpaaBx
namespace Go.Proofs.Ytbmjkkcjiofkpaa
open Go.RowKit
set_option linter.unusedVariables false
set_option linter.unusedSimpArgs false

set_option maxHeartbeats 1000000 in
theorem fnExactIsMatrix_walk (P C : Int) (A : Option Addr) (c : Nat) (xss : List (List Int)) (w : World) (h : RdII w A xss ∧ (∀ j, j < xss.length → (xss.getD j []).length ≤ maxLen) ∧ xss.length ≤ maxLen) :
    Calls Try.prog 5 #[.agg #[.int .i64 P, .int .i64 C, .slice A xss.length c]] w fun e w' => e = .returned (.bool true) ∧ Below w.heap.size w w' := by
  obtain ⟨hA, hm, hx⟩ := h
  have b0 : Below w.heap.size w (w.alloc (.cells #[.int .i64 P, .int .i64 C, .slice A xss.length c] 37)) := by go_grown
  have hA0 := hA.below' b0
  have HM := Lib.hid hm
  clear hm
  by_cases hs : (bulk xss : Int) ≤ 1048576
  · have hl : bulk xss ≤ 1048576 := by omega
    have e1 : szOf xss 1048576 = 1048576 - bulk xss := szOf_yes hs
    have h1 : 0 ≤ szOf xss 1048576 := by omega
    have B0 := Box3.new w (.int .i64 P) (.int .i64 C) (.slice A xss.length c) 37
    clear e1 hs
    go_enter Try.func5, Try.ntmps5
    go_wp2_with (fail)
    refine (szM_any P C A c xss 1048576 _ hA0 HM.out hx (by omega) (by omega)).mono ?_
    rintro e w1 ⟨rfl, hb1⟩
    have B1 := B0.below hb1
    have A1 := hA0.below' hb1
    have L1 := bstep b0 (by go_size) hb1
    obtain ⟨z1, c0, c1, c2⟩ := B1
    have B1 : Box3 w1 w.heap.size _ _ _ := ⟨z1, c0, c1, c2⟩
    clear hb1 B0 hA0 b0 hA
    generalize szOf xss 1048576 = s1 at *
    go_wp2_with (fail)
    refine (toM_any P C A c xss _ A1 hl).mono ?_
    rintro e w2 ⟨g2, rfl, ow2, hb2⟩
    have R2 := ow2.reads
    have B2 := B1.below hb2
    have A2 := A1.below' hb2
    have L2 := bstep L1 (by omega) hb2
    have z2 := B2.1
    clear c0 c1 c2 B1 A1 L1 ow2 z1 hb2
    go_wp2_with (fail)
    refine (sIsMat_any P C _ _ xss _ R2 HM.out hx).mono ?_
    rintro e w3 ⟨rfl, hb3⟩
    have B3 := B2.below hb3
    have A3 := A2.below' hb3
    have L3 := bstep L2 (by omega) hb3
    obtain ⟨z3, c0, c1, c2⟩ := B3
    have B3 : Box3 w3 w.heap.size _ _ _ := ⟨z3, c0, c1, c2⟩
    clear B2 A2 L2 hb3 z2 R2
    go_wp2_with (fail)
    refine (toM_any P C A c xss _ A3 hl).mono ?_
    rintro e w4 ⟨g4, rfl, ow4, hb4⟩
    have R4 := ow4.reads
    have B4 := B3.below hb4
    have A4 := A3.below' hb4
    have L4 := bstep L3 (by omega) hb4
    have z4 := B4.1
    clear c0 c1 c2 B3 A3 L3 ow4 z3 hb4
    have D0 := Box3.new w4 (.int .i64 P) (.int .i64 C) (.slice (some ⟨g4, 0, none⟩) xss.length xss.length) 26
    have L5 := bstep L4 (by omega) ((Below.refl w4.heap.size w4).alloc (Nat.le_refl _) (.cells #[.int .i64 P, .int .i64 C, .slice (some ⟨g4, 0, none⟩) xss.length xss.length] 26))
    have B5 := B4.alloc (.cells #[.int .i64 P, .int .i64 C, .slice (some ⟨g4, 0, none⟩) xss.length xss.length] 26)
    have A5 := A4.below' ((Below.refl w4.heap.size w4).alloc (Nat.le_refl _) (.cells #[.int .i64 P, .int .i64 C, .slice (some ⟨g4, 0, none⟩) xss.length xss.length] 26))
    have R5 := R4.below' ((Below.refl w4.heap.size w4).alloc (Nat.le_refl _) (.cells #[.int .i64 P, .int .i64 C, .slice (some ⟨g4, 0, none⟩) xss.length xss.length] 26))
    clear B4 A4 L4 R4
    go_wp2_with (fail)
    refine (isMat_any P C _ _ xss _ R5 HM.out hx).mono ?_
    rintro e w6 ⟨rfl, hb6⟩
    have B6 := B5.below hb6
    have D6 := D0.below hb6
    have A6 := A5.below' hb6
    have R6 := R5.below' hb6
    have L6 := bstep L5 (by go_size) hb6
    obtain ⟨z6, c0, c1, c2⟩ := B6
    obtain ⟨y6, d0, d1, d2⟩ := D6
    clear B5 D0 A5 R5 L5 hb6
    have R7 := R6.below' (Below.refl w6.heap.size w6).drew
    have A7 := A6.below' (Below.refl w6.heap.size w6).drew
    have L7 := L6.drew
    have B7 : Box3 w6.drew w.heap.size _ _ _ := ⟨z6, c0, c1, c2⟩
    have D7 : Box3 w6.drew w4.heap.size _ _ _ := ⟨y6, d0, d1, d2⟩
    go_wp2_with (fail)
    go_region_held3 (fun wx => wx.cell? ⟨w.heap.size, 0, none⟩ = some (.int .i64 P) ∧ wx.cell? ⟨w.heap.size, 1, none⟩ = some (.int .i64 C) ∧ wx.cell? ⟨w.heap.size, 2, none⟩ = some (.slice A xss.length c) ∧ wx.cell? ⟨w4.heap.size, 0, none⟩ = some (.int .i64 P) ∧ wx.cell? ⟨w4.heap.size, 1, none⟩ = some (.int .i64 C) ∧ wx.cell? ⟨w4.heap.size, 2, none⟩ = some (.slice (some ⟨g4, 0, none⟩) xss.length xss.length)) (first | go_keep | assumption) (first | (go_at_call 28; refine (toM_any P C A c xss _ A7 hl).mono ?_; rintro e w8 ⟨g8, rfl, ow8, hb8⟩; have B8 := B7.below hb8; have D8 := D7.below hb8; have SM := box6 B8 D8) | (go_at_call 30; refine (eqM_yes P C _ _ _ _ xss _ (R7.below' hb8) ow8.reads hl).mono ?_; rintro e w9 ⟨rfl, hb9⟩; have SM9 := box6 (B8.below hb9) (D8.below hb9)))
    all_goals
      go_wp2_with (fail)
      go_ret
      exact ⟨rfl, bstep (bstep L7 (Nat.le_of_lt B7.1) hb8) (Nat.le_of_lt B8.1) hb9⟩
  · have h1 := szOf_no (xss := xss) (left := 1048576) (by omega)
    have H1 := Lib.hid h1
    clear h1 hs
    go_enter Try.func5, Try.ntmps5
    go_wp2_with (fail)
    refine (szM_any P C A c xss 1048576 _ hA0 HM.out hx (by omega) (by omega)).mono ?_
    rw [H1.out]
    rintro e w1 ⟨rfl, hb1⟩
    go_wp2_with (fail)
    go_ret
    exact ⟨rfl, b0.trans (hb1.mono (by go_size))⟩
end Go.Proofs.Ytbmjkkcjiofkpaa
