/- Presentations: the program's DirectProduct, whole. -/
import Derived.Test.YtncpngmplddbkaaL11Z
namespace Go.Proofs.Ytncpngmplddbkaa
open Go.RowKit
set_option linter.unusedVariables false
set_option linter.unusedSimpArgs false

set_option maxRecDepth 100000 in
set_option maxHeartbeats 2000000 in
theorem iDirectProduct_ok (v0 : Value) (x : Pres) (v1 : Value) (y : Pres) (w : World) (h0 : PresC w v0 x) (h1 : PresC w v1 y) (s0 : spPres.sz x ≤ 1048576) (s1 : spPres.sz y ≤ 1048576) : Calls Try.prog 38 #[v0, v1] w (MadeC spPres (rDirectProduct x y) (cDirectProduct x y) w) := by
  by_cases hg : x.ok = true ∧ y.ok = true
  · obtain ⟨A0, a0, A1, a1, A2, a2, rfl, hA, -, -, -, ca⟩ := h0
    obtain ⟨B0, b0, B1, b1, B2, b2, rfl, hB, -, -, -, cb⟩ := h1
    have SA := Num.Shp.of hg.1
    have SB := Num.Shp.of hg.2
    rw [SA.l1, SA.l2, SB.l1, SB.l2]
    exact iDirect_main A0 A1 A2 B0 B1 B2 a0 a1 a2 b0 b1 b2 x.O.length y.O.length x.O y.O x.W y.W x.J y.J w hA hB SA SB ca cb hg.1 hg.2
  · have h0' := h0
    have h1' := h1
    obtain ⟨A0, n0, a0, A1, n1, a1, A2, n2, a2, rfl, -, -, -⟩ := spPres_form h0.rd
    obtain ⟨B0, m0, b0, B1, m1, b1, B2, m2, b2, rfl, -, -, -⟩ := spPres_form h1.rd
    obtain ⟨W0, hW0⟩ : ∃ X, ((w.alloc (.cells #[.slice A0 n0 a0, .slice A1 n1 a1, .slice A2 n2 a2] 29)).alloc (.cells #[.slice B0 m0 b0, .slice B1 m1 b1, .slice B2 m2 b2] 29)).alloc (.cells #[.slice none 0 0, .slice none 0 0, .slice none 0 0] 29) = X := ⟨_, rfl⟩
    have bW : Below w.heap.size w W0 := by rw [← hW0]; go_grown
    have BA : Blk W0 w.heap.size [.slice A0 n0 a0, .slice A1 n1 a1, .slice A2 n2 a2] 29 := by rw [← hW0]; exact ((Blk.new w [.slice A0 n0 a0, .slice A1 n1 a1, .slice A2 n2 a2] 29).alloc _).alloc _
    have BB : Blk W0 (w.heap.size + 1) [.slice B0 m0 b0, .slice B1 m1 b1, .slice B2 m2 b2] 29 := by
      rw [← hW0]
      have := (Blk.new (w.alloc (.cells #[.slice A0 n0 a0, .slice A1 n1 a1, .slice A2 n2 a2] 29)) [.slice B0 m0 b0, .slice B1 m1 b1, .slice B2 m2 b2] 29).alloc (.cells #[.slice none 0 0, .slice none 0 0, .slice none 0 0] 29)
      simpa using this
    have BR : Blk W0 (w.heap.size + 1 + 1) [.slice none 0 0, .slice none 0 0, .slice none 0 0] 29 := by
      rw [← hW0]
      have := Blk.new ((w.alloc (.cells #[.slice A0 n0 a0, .slice A1 n1 a1, .slice A2 n2 a2] 29)).alloc (.cells #[.slice B0 m0 b0, .slice B1 m1 b1, .slice B2 m2 b2] 29)) [.slice none 0 0, .slice none 0 0, .slice none 0 0] 29
      simpa using this
    have hz3 : w.heap.size + 3 ≤ W0.heap.size := by rw [← hW0]; simp
    have HIA := Lib.hid (iIsPres_any _ x W0 (h0'.below bW))
    have HIB : Hid (∀ W, Below W0.heap.size W0 W → Calls Try.prog 14 #[.agg #[.slice B0 m0 b0, .slice B1 m1 b1, .slice B2 m2 b2]] W (RetB y.ok W)) := Lib.hid fun W hb => iIsPres_any _ y W ((h1'.below bW).below hb)
    clear h0 h1 h0' h1'
    obtain ⟨l0, x0, x1, x2⟩ := BA.c3
    obtain ⟨l1, y0, y1, y2⟩ := BB.c3
    obtain ⟨l2, r0, r1, r2⟩ := BR.c3
    obtain ⟨f0, f1, f2⟩ := BR.f3
    cases hx : x.ok with
    | false =>
      have HE := Lib.hid (dp_bad (x := x) (y := y) (.inl hx))
      rw [hx] at HIA
      clear hx hg HIB
      go_enter Try.func38, Try.ntmps38
      go_wp2_with (fail)
      clear hW0
      refine HIA.out.mono ?_; rintro e w1 ⟨rfl, hb1⟩
      clear HIA
      replace bW := bstep bW bW.size hb1
      replace BA := BA.below hb1
      replace BB := BB.below hb1
      replace BR := BR.below hb1
      clear l0 x0 x1 x2 l1 y0 y1 y2 l2 r0 r1 r2 f0 f1 f2
      obtain ⟨l0, x0, x1, x2⟩ := BA.c3
      obtain ⟨l1, y0, y1, y2⟩ := BB.c3
      obtain ⟨l2, r0, r1, r2⟩ := BR.c3
      obtain ⟨f0, f1, f2⟩ := BR.f3
      go_wp2_with (fail)
      refine bodyPost_ret (v := .tuple #[.agg #[.slice none 0 0, .slice none 0 0, .slice none 0 0], .int .i64 1]) (by simp [results, Try.results38, go_sem, l2, r0, r1, r2]) rfl ?_
      rw [HE.out.1, HE.out.2]
      exact noPres_set bW (by omega) _ _ _ _
    | true =>
      have hy : y.ok = false := by
        cases hv : y.ok with
        | false => rfl
        | true => exact absurd ⟨hx, hv⟩ hg
      have HE := Lib.hid (dp_bad (x := x) (y := y) (.inr hy))
      rw [hx] at HIA
      rw [hy] at HIB
      clear hx hy hg
      go_enter Try.func38, Try.ntmps38
      go_wp2_with (fail)
      clear hW0
      refine HIA.out.mono ?_; rintro e w1 ⟨rfl, hb1⟩
      have HIB1 := Lib.hid (HIB.out w1 hb1)
      clear HIA HIB
      replace bW := bstep bW bW.size hb1
      replace BA := BA.below hb1
      replace BB := BB.below hb1
      replace BR := BR.below hb1
      clear l0 x0 x1 x2 l1 y0 y1 y2 l2 r0 r1 r2 f0 f1 f2
      obtain ⟨l0, x0, x1, x2⟩ := BA.c3
      obtain ⟨l1, y0, y1, y2⟩ := BB.c3
      obtain ⟨l2, r0, r1, r2⟩ := BR.c3
      obtain ⟨f0, f1, f2⟩ := BR.f3
      clear hb1
      go_wp2_with (fail)
      refine HIB1.out.mono ?_; rintro e w2 ⟨rfl, hb2⟩
      clear HIB1
      replace bW := bstep bW bW.size hb2
      replace BA := BA.below hb2
      replace BB := BB.below hb2
      replace BR := BR.below hb2
      clear l0 x0 x1 x2 l1 y0 y1 y2 l2 r0 r1 r2 f0 f1 f2
      obtain ⟨l0, x0, x1, x2⟩ := BA.c3
      obtain ⟨l1, y0, y1, y2⟩ := BB.c3
      obtain ⟨l2, r0, r1, r2⟩ := BR.c3
      obtain ⟨f0, f1, f2⟩ := BR.f3
      go_wp2_with (fail)
      refine bodyPost_ret (v := .tuple #[.agg #[.slice none 0 0, .slice none 0 0, .slice none 0 0], .int .i64 1]) (by simp [results, Try.results38, go_sem, l2, r0, r1, r2]) rfl ?_
      rw [HE.out.1, HE.out.2]
      exact noPres_set bW (by omega) _ _ _ _
end Go.Proofs.Ytncpngmplddbkaa
