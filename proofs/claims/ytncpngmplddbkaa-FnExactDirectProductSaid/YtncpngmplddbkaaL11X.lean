/- Presentations: the model's DirectProduct. -/
import Derived.Test.YtncpngmplddbkaaL11W
namespace Go.Proofs.Ytncpngmplddbkaa
open Go.RowKit
set_option linter.unusedVariables false
set_option linter.unusedSimpArgs false

def rDirectProduct (x y : Pres) : Pres := if x.ok = true ∧ y.ok = true ∧ Num.ordC (x.O ++ y.O) = 0 then dpP x y else noPres
def cDirectProduct (x y : Pres) : Int := if x.ok = true ∧ y.ok = true then Num.ordC (x.O ++ y.O) else 1
theorem Num.ordC_join {A B : List Int} (ha : Num.gpsB A = true) (hb : Num.gpsB B = true) (h0 : ¬ Num.ordC (A ++ B) = 0) : Num.ordC (A ++ B) = 3 := by
  by_cases h6 : 6 < (A ++ B).length
  · exact Num.ordC_len h6
  · by_cases h7 : 729 < Num.prodZ (A ++ B)
    · exact Num.ordC_big h6 (Num.gpsB_app ha hb) h7
    · exact absurd (Num.ordC_ok h6 (Num.gpsB_app ha hb) h7) h0
theorem Pres.gps {p : Pres} (h : p.ok = true) : Num.gpsB p.O = true := (Num.ordC_zero (Num.preB_out h).1).2.1
theorem getD_mem_len {α : Type} {xs : List α} {d : α} {P : α → Prop} (h : ∀ i, i < xs.length → P (xs.getD i d)) : ∀ x ∈ xs, P x := fun x hx => by
  obtain ⟨i, hi, rfl⟩ := List.getElem_of_mem hx
  have := h i hi
  rwa [List.getD_eq_getElem?_getD, List.getElem?_eq_getElem hi] at this
theorem Pres.ok_cnt {p : Pres} (h : p.ok = true) : spPres.cnt p ≤ 1000000000 := by
  have S := Num.Shp.of h
  have h6 := S.h6
  have e1 := S.l1
  have e2 := S.l2
  have h1 := sumOf_bd spI.cnt 6 p.W (getD_mem_len (d := []) (P := fun x => spI.cnt x ≤ 6) fun i hi => by
    have := S.lw i (by omega)
    show (p.W.getD i []).length ≤ 6
    omega)
  have h2 := sumOf_bd spII.cnt 36 p.J (getD_mem_len (d := []) (P := fun x => spII.cnt x ≤ 36) fun i hi => by
    have hl := S.lj i (by omega)
    have h3 := sumOf_bd spI.cnt 6 (p.J.getD i []) (getD_mem_len (d := []) (P := fun x => spI.cnt x ≤ 6) fun k hk => by
      have := S.lr i (by omega) k (by omega)
      show ((p.J.getD i []).getD k []).length ≤ 6
      omega)
    show sumOf spI.cnt _ ≤ _
    have := Nat.mul_le_mul_right 6 (show (p.J.getD i []).length ≤ 6 by omega)
    omega)
  show p.O.length + sumOf spI.cnt p.W + sumOf spII.cnt p.J ≤ _
  have h4 := Nat.mul_le_mul_right 6 (show p.W.length ≤ 6 by omega)
  have h5 := Nat.mul_le_mul_right 36 (show p.J.length ≤ 6 by omega)
  omega
theorem dp_bad {x y : Pres} (h : x.ok = false ∨ y.ok = false) : rDirectProduct x y = noPres ∧ cDirectProduct x y = 1 := by
  refine ⟨if_neg fun hh => ?_, if_neg fun hh => ?_⟩
  · rcases h with h | h
    · rw [h] at hh; exact absurd hh.1 (by simp)
    · rw [h] at hh; exact absurd hh.2.1 (by simp)
  · rcases h with h | h
    · rw [h] at hh; exact absurd hh.1 (by simp)
    · rw [h] at hh; exact absurd hh.2 (by simp)
theorem dp_good {x y : Pres} (hx : x.ok = true) (hy : y.ok = true) (h0 : Num.ordC (x.O ++ y.O) = 0) : rDirectProduct x y = dpP x y ∧ cDirectProduct x y = 0 :=
  ⟨if_pos ⟨hx, hy, h0⟩, by rw [cDirectProduct, if_pos ⟨hx, hy⟩, h0]⟩
theorem dp_limit {x y : Pres} (hx : x.ok = true) (hy : y.ok = true) (h0 : ¬ Num.ordC (x.O ++ y.O) = 0) : rDirectProduct x y = noPres ∧ cDirectProduct x y = 3 :=
  ⟨if_neg fun hh => h0 hh.2.2, by rw [cDirectProduct, if_pos ⟨hx, hy⟩, Num.ordC_join (Pres.gps hx) (Pres.gps hy) h0]⟩
theorem pres_lens {w : World} {x : Pres} {A0 A1 A2 : Option Addr} {n0 n1 n2 a0 a1 a2 : Nat} (h : spPres.rd w (.agg #[.slice A0 n0 a0, .slice A1 n1 a1, .slice A2 n2 a2]) x) : n0 = x.O.length ∧ n1 = x.W.length ∧ n2 = x.J.length ∧ RdI w A0 x.O ∧ RdW w A1 x.W ∧ RdX w A2 x.J := by
  obtain ⟨B0, c0, B1, c1, B2, c2, e, ⟨h0, h1, h2⟩, -, -, -⟩ := pres_open h
  simp only [Value.agg.injEq, Array.mk.injEq, List.cons.injEq, Value.slice.injEq, and_true] at e
  obtain ⟨⟨rfl, rfl, rfl⟩, ⟨rfl, rfl, rfl⟩, ⟨rfl, rfl, rfl⟩⟩ := e
  exact ⟨rfl, rfl, rfl, h0, h1, h2⟩
theorem sBoth_pres {x y : Pres} {v0 v1 : Value} (hx : x.ok = true) (hy : y.ok = true) (w : World) (h0 : spPres.rd w v0 x) (h1 : spPres.rd w v1 y) : Calls Try.prog 69 #[v0, v1] w (Made spPres (dpP x y) w) := by
  obtain ⟨A0, n0, a0, A1, n1, a1, A2, n2, a2, rfl, -, -, -⟩ := spPres_form h0
  obtain ⟨B0, m0, b0, B1, m1, b1, B2, m2, b2, rfl, -, -, -⟩ := spPres_form h1
  obtain ⟨rfl, rfl, rfl, hA⟩ := pres_lens h0
  obtain ⟨rfl, rfl, rfl, hB⟩ := pres_lens h1
  have SA := Num.Shp.of hx
  have SB := Num.Shp.of hy
  rw [SA.l1, SA.l2, SB.l1, SB.l2]
  exact sBoth_any A0 A1 A2 B0 B1 B2 a0 a1 a2 b0 b1 b2 x.O.length y.O.length x.O y.O x.W y.W x.J y.J w hA hB SA SB
set_option maxRecDepth 100000 in
set_option maxHeartbeats 2000000 in
theorem sDirectProduct_any (v0 v1 : Value) (x y : Pres) (w : World) (h0 : spPres.rd w v0 x) (h1 : spPres.rd w v1 y) : Calls Try.prog 37 #[v0, v1] w (MadeC spPres (rDirectProduct x y) (cDirectProduct x y) w) := by
  have h0' := h0
  have h1' := h1
  obtain ⟨A0, n0, a0, A1, n1, a1, A2, n2, a2, rfl, -, -, -⟩ := spPres_form h0
  obtain ⟨B0, m0, b0, B1, m1, b1, B2, m2, b2, rfl, -, -, -⟩ := spPres_form h1
  obtain ⟨W0, hW0⟩ : ∃ X, ((w.alloc (.cells #[.slice A0 n0 a0, .slice A1 n1 a1, .slice A2 n2 a2] 29)).alloc (.cells #[.slice B0 m0 b0, .slice B1 m1 b1, .slice B2 m2 b2] 29)).alloc (.cells #[.slice none 0 0, .slice none 0 0, .slice none 0 0] 29) = X := ⟨_, rfl⟩
  have bW : Below w.heap.size w W0 := by rw [← hW0]; go_grown
  have BA : Blk W0 w.heap.size [.slice A0 n0 a0, .slice A1 n1 a1, .slice A2 n2 a2] 29 := by rw [← hW0]; exact ((Blk.new w [.slice A0 n0 a0, .slice A1 n1 a1, .slice A2 n2 a2] 29).alloc _).alloc _
  have BB : Blk W0 (w.heap.size + 1) [.slice B0 m0 b0, .slice B1 m1 b1, .slice B2 m2 b2] 29 := by
    rw [← hW0]
    have := (Blk.new (w.alloc (.cells #[.slice A0 n0 a0, .slice A1 n1 a1, .slice A2 n2 a2] 29)) [.slice B0 m0 b0, .slice B1 m1 b1, .slice B2 m2 b2] 29).alloc (.cells #[.slice none 0 0, .slice none 0 0, .slice none 0 0] 29)
    simpa using this
  have BR : Blk W0 (w.heap.size + 1 + 1) [.slice none 0 0, .slice none 0 0, .slice none 0 0] 29 := by
    rw [← hW0]
    have := Blk.new ((w.alloc (.cells #[.slice A0 n0 a0, .slice A1 n1 a1, .slice A2 n2 a2] 29)).alloc (.cells #[.slice B0 m0 b0, .slice B1 m1 b1, .slice B2 m2 b2] 29)) [.slice none 0 0, .slice none 0 0, .slice none 0 0] 29
    simpa using this
  have hz3 : w.heap.size + 3 ≤ W0.heap.size := by rw [← hW0]; simp
  have RA := Lib.hid (spPres.rd_below h0' bW)
  have RB := Lib.hid (spPres.rd_below h1' bW)
  have HIA := Lib.hid (sIsPres_any _ x W0 RA.out)
  have HIB : Hid (∀ W, Below W0.heap.size W0 W → Calls Try.prog 12 #[.agg #[.slice B0 m0 b0, .slice B1 m1 b1, .slice B2 m2 b2]] W (RetB y.ok W)) := Lib.hid fun W hb => sIsPres_any _ y W (spPres.rd_below RB.out hb)
  clear h0 h1 h0' h1'
  obtain ⟨l0, x0, x1, x2⟩ := BA.c3
  obtain ⟨l1, y0, y1, y2⟩ := BB.c3
  obtain ⟨l2, r0, r1, r2⟩ := BR.c3
  obtain ⟨f0, f1, f2⟩ := BR.f3
  cases hx : x.ok with
  | false =>
    have HE := Lib.hid (dp_bad (x := x) (y := y) (.inl hx))
    rw [hx] at HIA
    clear hx HIB
    go_enter Try.func37, Try.ntmps37
    go_wp2_with (fail)
    clear hW0
    refine HIA.out.mono ?_; rintro e w1 ⟨rfl, hb1⟩
    clear HIA
    replace bW := bstep bW bW.size hb1
    replace BA := BA.below hb1
    replace BB := BB.below hb1
    replace BR := BR.below hb1
    clear l0 x0 x1 x2 l1 y0 y1 y2 l2 r0 r1 r2 f0 f1 f2
    obtain ⟨l0, x0, x1, x2⟩ := BA.c3
    obtain ⟨l1, y0, y1, y2⟩ := BB.c3
    obtain ⟨l2, r0, r1, r2⟩ := BR.c3
    obtain ⟨f0, f1, f2⟩ := BR.f3
    go_wp2_with (fail)
    refine bodyPost_ret (v := .tuple #[.agg #[.slice none 0 0, .slice none 0 0, .slice none 0 0], .int .i64 1]) (by simp [results, Try.results37, go_sem, l2, r0, r1, r2]) rfl ?_
    rw [HE.out.1, HE.out.2]
    exact noPres_set bW (by omega) _ _ _ _
  | true =>
    rw [hx] at HIA
    have HX := Lib.hid hx
    clear hx
    cases hy : y.ok with
    | false =>
      have HE := Lib.hid (dp_bad (x := x) (y := y) (.inr hy))
      rw [hy] at HIB
      clear hy
      go_enter Try.func37, Try.ntmps37
      go_wp2_with (fail)
      clear hW0
      refine HIA.out.mono ?_; rintro e w1 ⟨rfl, hb1⟩
      have HIB1 := Lib.hid (HIB.out w1 hb1)
      clear HIA HIB
      replace bW := bstep bW bW.size hb1
      replace BA := BA.below hb1
      replace BB := BB.below hb1
      replace BR := BR.below hb1
      clear l0 x0 x1 x2 l1 y0 y1 y2 l2 r0 r1 r2 f0 f1 f2
      obtain ⟨l0, x0, x1, x2⟩ := BA.c3
      obtain ⟨l1, y0, y1, y2⟩ := BB.c3
      obtain ⟨l2, r0, r1, r2⟩ := BR.c3
      obtain ⟨f0, f1, f2⟩ := BR.f3
      clear hb1
      go_wp2_with (fail)
      refine HIB1.out.mono ?_; rintro e w2 ⟨rfl, hb2⟩
      clear HIB1
      replace bW := bstep bW bW.size hb2
      replace BA := BA.below hb2
      replace BB := BB.below hb2
      replace BR := BR.below hb2
      clear l0 x0 x1 x2 l1 y0 y1 y2 l2 r0 r1 r2 f0 f1 f2
      obtain ⟨l0, x0, x1, x2⟩ := BA.c3
      obtain ⟨l1, y0, y1, y2⟩ := BB.c3
      obtain ⟨l2, r0, r1, r2⟩ := BR.c3
      obtain ⟨f0, f1, f2⟩ := BR.f3
      go_wp2_with (fail)
      refine bodyPost_ret (v := .tuple #[.agg #[.slice none 0 0, .slice none 0 0, .slice none 0 0], .int .i64 1]) (by simp [results, Try.results37, go_sem, l2, r0, r1, r2]) rfl ?_
      rw [HE.out.1, HE.out.2]
      exact noPres_set bW (by omega) _ _ _ _
    | true =>
      rw [hy] at HIB
      have HY := Lib.hid hy
      clear hy
      have HOK := Lib.hid (dpP_ok HX.out HY.out)
      have HBO : Hid (∀ W, Below W0.heap.size W0 W → Calls Try.prog 69 #[.agg #[.slice A0 n0 a0, .slice A1 n1 a1, .slice A2 n2 a2], .agg #[.slice B0 m0 b0, .slice B1 m1 b1, .slice B2 m2 b2]] W (Made spPres (dpP x y) W)) := Lib.hid fun W hb => sBoth_pres HX.out HY.out W (spPres.rd_below RA.out hb) (spPres.rd_below RB.out hb)
      go_enter Try.func37, Try.ntmps37
      go_wp2_with (fail)
      clear hW0
      refine HIA.out.mono ?_; rintro e w1 ⟨rfl, hb1⟩
      have HIB1 := Lib.hid (HIB.out w1 hb1)
      clear HIA HIB
      replace bW := bstep bW bW.size hb1
      replace BA := BA.below hb1
      replace BB := BB.below hb1
      replace BR := BR.below hb1
      clear l0 x0 x1 x2 l1 y0 y1 y2 l2 r0 r1 r2 f0 f1 f2
      obtain ⟨l0, x0, x1, x2⟩ := BA.c3
      obtain ⟨l1, y0, y1, y2⟩ := BB.c3
      obtain ⟨l2, r0, r1, r2⟩ := BR.c3
      obtain ⟨f0, f1, f2⟩ := BR.f3
      go_wp2_with (fail)
      refine HIB1.out.mono ?_; rintro e w2 ⟨rfl, hb2⟩
      have HBO2 := Lib.hid (HBO.out w2 (bstep hb1 hb1.size hb2))
      clear HIB1 HBO hb1
      replace bW := bstep bW bW.size hb2
      replace BA := BA.below hb2
      replace BB := BB.below hb2
      replace BR := BR.below hb2
      clear l0 x0 x1 x2 l1 y0 y1 y2 l2 r0 r1 r2 f0 f1 f2
      obtain ⟨l0, x0, x1, x2⟩ := BA.c3
      obtain ⟨l1, y0, y1, y2⟩ := BB.c3
      obtain ⟨l2, r0, r1, r2⟩ := BR.c3
      obtain ⟨f0, f1, f2⟩ := BR.f3
      clear hb2
      go_wp2_with (fail)
      refine HBO2.out.mono ?_; rintro e w3 ⟨u, S, rfl, own, hS, hb3⟩
      obtain ⟨A4, n4, c4, A5, n5, c5, A6, n6, c6, rfl, -, -, -⟩ := spPres_form (spPres.own_rd own)
      have hz4 := Nat.le_trans bW.size (Nat.le_refl _)
      have l2' := l2
      have HS : Hid (∀ k, S k → w.heap.size + 1 + 1 < k) := Lib.hid fun k hk => by have := hS k hk; omega
      clear HBO2 hS hz4 l2'
      replace bW := bstep bW bW.size hb3
      replace BA := BA.below hb3
      replace BB := BB.below hb3
      replace BR := BR.below hb3
      clear l0 x0 x1 x2 l1 y0 y1 y2 l2 r0 r1 r2 f0 f1 f2
      obtain ⟨l0, x0, x1, x2⟩ := BA.c3
      obtain ⟨l1, y0, y1, y2⟩ := BB.c3
      obtain ⟨l2, r0, r1, r2⟩ := BR.c3
      obtain ⟨f0, f1, f2⟩ := BR.f3
      have HOW := Lib.hid (spPres.own_alloc own (.cells #[.slice A4 n4 c4, .slice A5 n5 c5, .slice A6 n6 c6] 29))
      have HIP := Lib.hid (sIsPres_any _ (dpP x y) _ (spPres.own_rd HOW.out))
      rw [HOK.out] at HIP
      have hb4 : Below w3.heap.size w3 (w3.alloc (.cells #[.slice A4 n4 c4, .slice A5 n5 c5, .slice A6 n6 c6] 29)) := by go_grown
      have BP := Blk.new w3 [.slice A4 n4 c4, .slice A5 n5 c5, .slice A6 n6 c6] 29
      clear own hb3
      have hw3 : w.heap.size + 1 + 1 < w3.heap.size := l2
      by_cases h0 : Num.ordC (x.O ++ y.O) = 0
      · have HE := Lib.hid (dp_good HX.out HY.out h0)
        have HCN : Hid (spPres.cnt (dpP x y) ≤ 1000000000) := Lib.hid (Pres.ok_cnt (by rw [HOK.out]; exact decide_eq_true h0))
        rw [decide_eq_true h0] at HIP
        clear h0
        go_wp2_with (fail)
        refine HIP.out.mono ?_; rintro e w4 ⟨rfl, hb5⟩
        have L4 := bstep (bstep bW bW.size hb4) (by have := bW.size; simp; omega) hb5
        have BR4 := (BR.below hb4).below hb5
        obtain ⟨g3, p0, p1, p2⟩ := (BP.below hb5).c3
        have ow := Lib.hid (spPres.own_below HOW.out hb5)
        clear HIP hb5 l0 x0 x1 x2 l1 y0 y1 y2 l2 r0 r1 r2 f0 f1 f2
        obtain ⟨l2, r0, r1, r2⟩ := BR4.c3
        obtain ⟨f0, f1, f2⟩ := BR4.f3
        clear hb4 BP
        have ne1 : ¬ (w.heap.size + 1 + 1 = w3.heap.size) := by omega
        have ne2 : ¬ (w3.heap.size = w.heap.size + 1 + 1) := by omega
        go_wp2_with (fail)
        refine bodyPost_ret (v := .tuple #[.agg #[.slice A4 n4 c4, .slice A5 n5 c5, .slice A6 n6 c6], .int .i64 0]) (by simp [results, Try.results37, go_sem, l2, r0, r1, r2]) rfl ?_
        rw [HE.out.1, HE.out.2]
        have nb : ¬ S (w.heap.size + 1 + 1) := fun h => by have := HS.out _ h; omega
        refine ⟨_, S, rfl, ?_, fun k hk => by have := HS.out k hk; omega, HCN.out, ?_⟩
        · exact spPres.own_set (spPres.own_set (spPres.own_set ow.out (p := ⟨w.heap.size + 1 + 1, 0, none⟩) nb _) (p := ⟨w.heap.size + 1 + 1, 1, none⟩) nb _) (p := ⟨w.heap.size + 1 + 1, 2, none⟩) nb _
        · exact ((L4.setCell (p := ⟨w.heap.size + 1 + 1, 0, none⟩) (by simp; omega) _).setCell (p := ⟨w.heap.size + 1 + 1, 1, none⟩) (by simp; omega) _).setCell (p := ⟨w.heap.size + 1 + 1, 2, none⟩) (by simp; omega) _
      · have HE := Lib.hid (dp_limit HX.out HY.out h0)
        rw [decide_eq_false h0] at HIP
        clear h0
        go_wp2_with (fail)
        refine HIP.out.mono ?_; rintro e w4 ⟨rfl, hb5⟩
        have BR4 := (BR.below hb4).below hb5
        replace bW := bstep (bstep bW bW.size hb4) (by have := bW.size; simp; omega) hb5
        clear HIP hb5 hb4 HOW BP l0 x0 x1 x2 l1 y0 y1 y2 l2 r0 r1 r2 f0 f1 f2
        obtain ⟨l2, r0, r1, r2⟩ := BR4.c3
        obtain ⟨f0, f1, f2⟩ := BR4.f3
        go_wp2_with (fail)
        refine bodyPost_ret (v := .tuple #[.agg #[.slice none 0 0, .slice none 0 0, .slice none 0 0], .int .i64 3]) (by simp [results, Try.results37, go_sem, l2, r0, r1, r2]) rfl ?_
        rw [HE.out.1, HE.out.2]
        exact noPres_set bW (by omega) _ _ _ _
theorem sDirectProduct_ok (v0 : Value) (x0 : Pres) (v1 : Value) (x1 : Pres) (w : World) (h0 : spPres.rd w v0 x0) (h1 : spPres.rd w v1 x1) (s0 : spPres.sz x0 ≤ 1048576) (s1 : spPres.sz x1 ≤ 1048576) : Calls Try.prog 37 #[v0, v1] w (MadeC spPres (rDirectProduct x0 x1) (cDirectProduct x0 x1) w) := sDirectProduct_any v0 v1 x0 x1 w h0 h1
end Go.Proofs.Ytncpngmplddbkaa
