/- The walk of the exact law of Factorize. -/
import Derived.Test.YtkgiffmnhpbpiaaL01G
namespace Go.Proofs.Ytkgiffmnhpbpiaa
open Go.RowKit
set_option linter.unusedVariables false
set_option linter.unusedSimpArgs false

/-- The row behind a mark: what the marks leave, as an owned list. -/
theorem OwnI.of_marks {w : World} {base : Nat} {A : Option Addr} {n cap : Nat} {k : Int} (h : w.ownsRow base 2 1 (.slice A n cap) n ((marks k n).map (Value.int .i64))) : OwnI w base (.slice A n cap) (marks k n) := by
  unfold OwnI; rw [marks_length]; exact h

set_option maxHeartbeats 1000000 in
theorem fnExactFactorize_walk (a0 : Int) (w : World) (w0 : (Lit.int .i64 a0).wf = true) :
    Calls Try.prog 6 #[.int .i64 a0] w fun e w' => e = .returned (.bool true) ∧ Below w.heap.size w w' := by
  clear w0
  by_cases h : a0 < 1 ∨ 1000000 < a0
  · have H := Lib.hid h
    clear h
    have e0 : ∀ wx, Calls Try.prog 27 #[.slice none 0 0, .slice none 0 0] wx fun e w' => e = .returned (.bool true) ∧ Below wx.heap.size wx w' := fun wx => eqI_yes none none 0 0 [] wx (RdI.nil _ _) (RdI.nil _ _) (by simp)
    have m0 : ∀ wx, Calls Try.prog 28 #[.slice none 0 0, .int .i64 1] wx fun e w' => e = .returned (.int .i64 1) ∧ Below wx.heap.size wx w' := fun wx => by
      refine (markI_any wx.heap.size 2 none 0 0 [] 1 wx (World.ownsRow_nil _ _ _ _) (by omega) (by omega) (by omega)).mono ?_
      rintro e w' ⟨rfl, _, hg⟩
      exact ⟨rfl, (Below.refl _ _).grown hg (Nat.le_refl _) (fun k hk => by simp [Value.ownBlock] at hk)⟩
    have h0 : ∀ wx, Calls Try.prog 29 #[.slice none 0 0, .int .i64 1] wx fun e w' => e = .returned (.int .i64 1) ∧ wx = w' := fun wx => heldI_any none 0 0 1 wx (RdI.nil _ _) (by omega) (by omega) (by omega)
    go_enter Try.func6, Try.ntmps6
    go_wp2_with (fail)
    refine (sFactorize_bad _ _ H.out).mono ?_; rintro e w' ⟨rfl, rfl⟩
    go_wp2_with (fail)
    refine (factorize_bad _ _ H.out).mono ?_; rintro e w' ⟨rfl, rfl⟩
    go_wp2_with (fail)
    refine (e0 _).mono ?_; rintro e w1 ⟨rfl, b1⟩
    go_wp2_with (fail)
    refine (e0 _).mono ?_; rintro e w2 ⟨rfl, b2⟩
    go_wp2_with (fail)
    refine (m0 _).mono ?_; rintro e w3 ⟨rfl, b3⟩
    go_wp2_with (fail)
    refine (m0 _).mono ?_; rintro e w4 ⟨rfl, b4⟩
    go_wp2_with (fail)
    refine (h0 _).mono ?_; rintro e w' ⟨rfl, rfl⟩
    go_wp2_with (fail)
    refine (h0 _).mono ?_; rintro e w' ⟨rfl, rfl⟩
    go_wp2_with (fail)
    refine (factorize_bad _ _ H.out).mono ?_; rintro e w' ⟨rfl, rfl⟩
    go_wp2_with (fail)
    refine (e0 _).mono ?_; rintro e w5 ⟨rfl, b5⟩
    go_wp2_with (fail)
    refine (e0 _).mono ?_; rintro e w6 ⟨rfl, b6⟩
    go_wp2_with (fail)
    refine (h0 _).mono ?_; rintro e w' ⟨rfl, rfl⟩
    go_wp2_with (fail)
    refine (h0 _).mono ?_; rintro e w' ⟨rfl, rfl⟩
    go_wp2
    go_ret
    have z1 := b1.size
    have z2 := b2.size
    have z3 := b3.size
    have z4 := b4.size
    have z5 := b5.size
    exact ⟨rfl, ((((b1.trans (b2.mono z1)).trans (b3.mono (by omega))).trans (b4.mono (by omega))).trans (b5.mono (by omega))).trans (b6.mono (by omega))⟩
  · have n1 : 1 ≤ a0 := by omega
    have n2 : a0 ≤ 1000000 := by omega
    clear h
    have hlP : (Num.facP 2 a0).length ≤ 1000000 := by have := Num.facP_len (d := 2) n1; omega
    have hlE : (Num.facE 2 a0).length ≤ 1000000 := by rw [← Num.facPE_len]; exact hlP
    have hPE := Num.facPE_len 2 a0
    have hS : ∀ wx, Calls Try.prog 16 #[.int .i64 a0] wx (FacPost wx (Num.facP 2 a0) (Num.facE 2 a0)) := fun wx => (sFactorize_ok a0 wx n1 n2).mono fun _ _ h => FacPost.of h
    have hI : ∀ wx, Calls Try.prog 15 #[.int .i64 a0] wx (FacPost wx (Num.facP 2 a0) (Num.facE 2 a0)) := fun wx => (factorize_ok a0 wx n1 n2).mono fun _ _ h => FacPost.of h
    generalize Num.facP 2 a0 = P at *
    generalize Num.facE 2 a0 = E at *
    have HPE := Lib.hid hPE
    clear hPE
    have lP : (0 : Int) ≤ (P.length : Int) := by omega
    have lE : (0 : Int) ≤ (E.length : Int) := by omega
    have tm : ((1 : Int) + P.length + E.length == 1 + P.length + E.length) = true := by simp
    go_enter Try.func6, Try.ntmps6
    go_wp2_with (fail)
    refine (hS _).mono ?_; rintro e wa ⟨S1, k1, S2, k2, rfl, s1, s2, _, bel⟩
    have t1 := fun k hk => (World.ownsRow.lt s1 k hk).2
    have t2 := fun k hk => (World.ownsRow.lt s2 k hk).2
    go_wp2_with (fail)
    refine (hI _).mono ?_; rintro e wb ⟨G1, c1, G2, c2, rfl, g1, g2, gap, bb⟩
    have hwa := bel.size
    have a11 := g1.apart t1
    have a12 := g1.apart t2
    have a21 := g2.apart t1
    have a22 := g2.apart t2
    have gb1 := g1.base_le
    have gb2 := g2.base_le
    replace s1 := s1.below bb
    replace s2 := s2.below bb
    replace bel := bel.trans (bb.mono hwa)
    have hwb := bb.size
    clear bb t1 t2
    go_wp2_with (fail)
    refine (eqI_yes _ _ _ _ P _ g1.reads s1.reads (by omega)).mono ?_; rintro e w1 ⟨rfl, b1⟩
    replace s1 := s1.below b1
    replace s2 := s2.below b1
    replace g1 := g1.below b1
    replace g2 := g2.below b1
    replace bel := bel.trans (b1.mono (by omega))
    have h1 := b1.size
    clear b1
    go_wp2_with (fail)
    refine (eqI_yes _ _ _ _ E _ g2.reads s2.reads (by omega)).mono ?_; rintro e w2 ⟨rfl, b1⟩
    replace s1 := s1.below b1
    replace s2 := s2.below b1
    replace g1 := g1.below b1
    replace g2 := g2.below b1
    replace bel := bel.trans (b1.mono (by omega))
    have h2 := b1.size
    clear b1
    go_wp2_with (fail)
    refine (markI_any _ _ _ _ _ _ 1 _ g1 (by omega) (by omega) (by omega)).mono ?_; rintro e w3 ⟨rfl, m1, gr⟩
    replace s1 := s1.kept gr a11.symm
    replace s2 := s2.kept gr a12.symm
    replace g2 := g2.kept gr gap.symm
    replace bel := bel.grown gr (by omega) (fun k hk => by have := gb1 k hk; omega)
    have h3 := gr.size
    replace g1 := OwnI.of_marks m1
    clear gr m1
    go_wp2_with (fail)
    refine (markI_any _ _ _ _ _ _ (1 + P.length) _ g2 (by omega) (by omega) (by omega)).mono ?_; rintro e w4 ⟨rfl, m1, gr⟩
    replace s1 := s1.kept gr a21.symm
    replace s2 := s2.kept gr a22.symm
    replace g1 := g1.kept gr gap
    replace bel := bel.grown gr (by omega) (fun k hk => by have := gb2 k hk; omega)
    have h4 := gr.size
    replace g2 := OwnI.of_marks m1
    clear gr m1 a11 a12 a21 a22 gap gb1 gb2
    go_wp2_with (fail)
    refine (heldI_any _ _ _ 1 _ g1.reads (by omega) (by omega) (by omega)).mono ?_; rintro e w' ⟨rfl, rfl⟩
    go_wp2_with (fail)
    refine (heldI_any _ _ _ (1 + P.length) _ g2.reads (by omega) (by omega) (by omega)).mono ?_; rintro e w' ⟨rfl, rfl⟩
    go_wp2_with (fail)
    refine (hI _).mono ?_; rintro e w5 ⟨H1, d1, H2, d2, rfl, o1, o2, _, b1⟩
    replace s1 := s1.below b1
    replace s2 := s2.below b1
    replace g1 := g1.below b1
    replace g2 := g2.below b1
    replace bel := bel.trans (b1.mono (by omega))
    have h5 := b1.size
    clear b1
    go_wp2_with (fail)
    refine (eqI_yes _ _ _ _ P _ o1.reads s1.reads (by omega)).mono ?_; rintro e w6 ⟨rfl, b1⟩
    replace s2 := s2.below b1
    replace o2 := o2.below b1
    replace g1 := g1.below b1
    replace g2 := g2.below b1
    replace bel := bel.trans (b1.mono (by omega))
    have h6 := b1.size
    clear b1 s1 o1
    go_wp2_with (fail)
    refine (eqI_yes _ _ _ _ E _ o2.reads s2.reads (by omega)).mono ?_; rintro e w7 ⟨rfl, b1⟩
    replace g1 := g1.below b1
    replace g2 := g2.below b1
    replace bel := bel.trans (b1.mono (by omega))
    clear b1 s2 o2
    go_wp2_with (fail)
    refine (heldI_any _ _ _ 1 _ g1.reads (by omega) (by omega) (by omega)).mono ?_; rintro e w' ⟨rfl, rfl⟩
    go_wp2_with (fail)
    refine (heldI_any _ _ _ (1 + P.length) _ g2.reads (by omega) (by omega) (by omega)).mono ?_; rintro e w' ⟨rfl, rfl⟩
    go_wp2
    go_ret
    exact ⟨rfl, bel⟩
end Go.Proofs.Ytkgiffmnhpbpiaa
