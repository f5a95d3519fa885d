/- SumAbelian of the program. -/
import Derived.Test.YtpplojbcjgiabaaL09D
import Derived.Test.YtpplojbcjgiabaaL09G
import Derived.Deep.RegionHeld3
namespace Go.Proofs.Ytpplojbcjgiabaa
open Go.RowKit
set_option linter.unusedVariables false
set_option linter.unusedSimpArgs false
theorem cell_two {w : World} {b k o : Nat} (h : b ≠ k) (u u' : Value) : ((w.setCell ⟨k, 0, none⟩ u).setCell ⟨k, 1, none⟩ u').cell? ⟨b, o, none⟩ = w.cell? ⟨b, o, none⟩ := by
  rw [World.cell?_of_block (Go.Deep.blk_setCell_other _ _ _ b h), World.cell?_of_block (Go.Deep.blk_setCell_other _ _ _ b h)]

def rSumAbelian (x y : Ab) : Ab := if x.ok = true ∧ y.ok = true then rDir (Num.chainL x.F x.K ++ Num.chainL y.F y.K) else ⟨[], 0⟩
def cSumAbelian (x y : Ab) : Int := if x.ok = true ∧ y.ok = true then cDir (Num.chainL x.F x.K ++ Num.chainL y.F y.K) else 1
theorem Ab.sum_bad {x y : Ab} (h : x.ok = false ∨ y.ok = false) : rSumAbelian x y = ⟨[], 0⟩ ∧ cSumAbelian x y = 1 := by
  have : ¬ (x.ok = true ∧ y.ok = true) := fun hh => by rcases h with h | h <;> simp [h] at hh
  unfold rSumAbelian cSumAbelian
  rw [if_neg this, if_neg this]
  exact ⟨rfl, rfl⟩
theorem Ab.sum_ok {x y : Ab} (h : x.ok = true) (h' : y.ok = true) : rSumAbelian x y = rDir (Num.chainL x.F x.K ++ Num.chainL y.F y.K) ∧ cSumAbelian x y = cDir (Num.chainL x.F x.K ++ Num.chainL y.F y.K) := by
  unfold rSumAbelian cSumAbelian
  rw [if_pos ⟨h, h'⟩, if_pos ⟨h, h'⟩]
  exact ⟨rfl, rfl⟩
set_option maxRecDepth 100000 in
set_option maxHeartbeats 2000000 in
theorem iSumAbelian_any (v0 v1 : Value) (x0 x1 : Ab) (w : World) (h0 : spAb.rd w v0 x0) (h1 : spAb.rd w v1 x1) : Calls Try.prog 22 #[v0, v1] w (MadeC spAb (rSumAbelian x0 x1) (cSumAbelian x0 x1) w) := by
  obtain ⟨F0, K0⟩ := x0
  obtain ⟨_, rfl, A0, c0, rfl, hm0, hA0⟩ := h0
  replace hA0 : RdI w A0 F0 := hA0
  replace hm0 : F0.length ≤ maxLen := hm0
  obtain ⟨F1, K1⟩ := x1
  obtain ⟨_, rfl, A1, c1, rfl, hm1, hA1⟩ := h1
  replace hA1 : RdI w A1 F1 := hA1
  replace hm1 : F1.length ≤ maxLen := hm1
  have L : Below w.heap.size w (((w.alloc (.cells [.slice A0 F0.length c0, .int .i64 K0].toArray 40)).alloc (.cells [.slice A1 F1.length c1, .int .i64 K1].toArray 40)).alloc (.cells [.slice none 0 0, (.int .i64 0 : Value)].toArray 40)) := by go_grown
  have Ba : Blk (((w.alloc (.cells [.slice A0 F0.length c0, .int .i64 K0].toArray 40)).alloc (.cells [.slice A1 F1.length c1, .int .i64 K1].toArray 40)).alloc (.cells [.slice none 0 0, (.int .i64 0 : Value)].toArray 40)) w.heap.size [.slice A0 F0.length c0, .int .i64 K0] 40 := ((Blk.new w [.slice A0 F0.length c0, .int .i64 K0] _).alloc _).alloc _
  have Bb : Blk (((w.alloc (.cells [.slice A0 F0.length c0, .int .i64 K0].toArray 40)).alloc (.cells [.slice A1 F1.length c1, .int .i64 K1].toArray 40)).alloc (.cells [.slice none 0 0, (.int .i64 0 : Value)].toArray 40)) (w.heap.size + 1) [.slice A1 F1.length c1, .int .i64 K1] 40 := by have := (Blk.new (w.alloc (.cells [.slice A0 F0.length c0, .int .i64 K0].toArray 40)) [.slice A1 F1.length c1, .int .i64 K1] 40).alloc (.cells [.slice none 0 0, (.int .i64 0 : Value)].toArray 40); rwa [World.size_alloc] at this
  have BR : Blk (((w.alloc (.cells [.slice A0 F0.length c0, .int .i64 K0].toArray 40)).alloc (.cells [.slice A1 F1.length c1, .int .i64 K1].toArray 40)).alloc (.cells [.slice none 0 0, (.int .i64 0 : Value)].toArray 40)) (w.heap.size + 2) [.slice none 0 0, (.int .i64 0 : Value)] 40 := by have := Blk.new ((w.alloc (.cells [.slice A0 F0.length c0, .int .i64 K0].toArray 40)).alloc (.cells [.slice A1 F1.length c1, .int .i64 K1].toArray 40)) [.slice none 0 0, (.int .i64 0 : Value)] 40; rwa [World.size_alloc, World.size_alloc] at this
  have R0 := Lib.hid (spAb.rd_below (x := ⟨F0, K0⟩) (v := .agg #[.slice A0 F0.length c0, .int .i64 K0]) ⟨_, rfl, A0, c0, rfl, hm0, hA0⟩ L)
  have R1 := Lib.hid (spAb.rd_below (x := ⟨F1, K1⟩) (v := .agg #[.slice A1 F1.length c1, .int .i64 K1]) ⟨_, rfl, A1, c1, rfl, hm1, hA1⟩ L)
  cases hk0 : Ab.ok ⟨F0, K0⟩ with
  | false =>
    have HE := Lib.hid (Ab.sum_bad (x := ⟨F0, K0⟩) (y := ⟨F1, K1⟩) (.inl hk0))
    have HC := Lib.hid (isAb_no _ _ _ R0.out hk0)
    clear hk0 hA0 hm0 hA1 hm1
    obtain ⟨bl0, a00, a01⟩ := Ba.c2
    obtain ⟨bl1, a10, a11⟩ := Bb.c2
    obtain ⟨bl2, a20, a21⟩ := BR.c2
    have fr0 := BR.free 0
    have fr1 := BR.free 1
    go_enter Try.func22, Try.ntmps22
    go_wp2_with (fail)
    refine HC.out.mono ?_; rintro e w1 ⟨rfl, hb⟩
    replace L := bstep L L.size hb
    replace Ba := Ba.below hb
    replace Bb := Bb.below hb
    replace BR := BR.below hb
    replace R0 := Lib.hid (spAb.rd_below R0.out hb)
    replace R1 := Lib.hid (spAb.rd_below R1.out hb)
    clear a00 a01 a10 a11 a20 a21 bl0 bl1 bl2 fr0 fr1 HC hb
    obtain ⟨bl0, a00, a01⟩ := Ba.c2
    obtain ⟨bl1, a10, a11⟩ := Bb.c2
    obtain ⟨bl2, a20, a21⟩ := BR.c2
    have fr0 := BR.free 0
    have fr1 := BR.free 1
    have bw5 := (L.setCell (p := ⟨w.heap.size + 2, 0, none⟩) (by simp) (.slice none 0 0)).setCell (p := ⟨w.heap.size + 2, 1, none⟩) (by simp) (.int .i64 0)
    go_wp2_with (fail)
    refine bodyPost_ret (v := .tuple #[.agg #[.slice none 0 0, .int .i64 0], .int .i64 1]) (by simp [results, Try.results22, go_sem, bl2, a20, a21]) rfl ?_
    rw [HE.out.1, HE.out.2]
    exact MadeC.zero bw5
  | true =>
    have HC := Lib.hid (isAb_yes _ _ _ R0.out hk0)
    cases hk1 : Ab.ok ⟨F1, K1⟩ with
    | false =>
      have HE := Lib.hid (Ab.sum_bad (x := ⟨F0, K0⟩) (y := ⟨F1, K1⟩) (.inr hk1))
      have HC2 : Hid (∀ W, spAb.rd W (.agg #[.slice A1 F1.length c1, .int .i64 K1]) ⟨F1, K1⟩ → Calls Try.prog 46 #[.agg #[.slice A1 F1.length c1, .int .i64 K1]] W (RetB false W)) := Lib.hid fun W hW => isAb_no _ _ _ hW hk1
      clear hk0 hk1 hA0 hm0 hA1 hm1
      obtain ⟨bl0, a00, a01⟩ := Ba.c2
      obtain ⟨bl1, a10, a11⟩ := Bb.c2
      obtain ⟨bl2, a20, a21⟩ := BR.c2
      have fr0 := BR.free 0
      have fr1 := BR.free 1
      go_enter Try.func22, Try.ntmps22
      go_wp2_with (fail)
      refine HC.out.mono ?_; rintro e w1 ⟨rfl, hb⟩
      replace L := bstep L L.size hb
      replace Ba := Ba.below hb
      replace Bb := Bb.below hb
      replace BR := BR.below hb
      replace R0 := Lib.hid (spAb.rd_below R0.out hb)
      replace R1 := Lib.hid (spAb.rd_below R1.out hb)
      clear a00 a01 a10 a11 a20 a21 bl0 bl1 bl2 fr0 fr1 HC hb
      obtain ⟨bl0, a00, a01⟩ := Ba.c2
      obtain ⟨bl1, a10, a11⟩ := Bb.c2
      obtain ⟨bl2, a20, a21⟩ := BR.c2
      have fr0 := BR.free 0
      have fr1 := BR.free 1
      go_wp2_with (fail)
      refine (HC2.out _ R1.out).mono ?_; rintro e w2 ⟨rfl, hb⟩
      replace L := bstep L L.size hb
      replace Ba := Ba.below hb
      replace Bb := Bb.below hb
      replace BR := BR.below hb
      replace R0 := Lib.hid (spAb.rd_below R0.out hb)
      replace R1 := Lib.hid (spAb.rd_below R1.out hb)
      clear a00 a01 a10 a11 a20 a21 bl0 bl1 bl2 fr0 fr1 HC2 hb
      obtain ⟨bl0, a00, a01⟩ := Ba.c2
      obtain ⟨bl1, a10, a11⟩ := Bb.c2
      obtain ⟨bl2, a20, a21⟩ := BR.c2
      have fr0 := BR.free 0
      have fr1 := BR.free 1
      have bw5 := (L.setCell (p := ⟨w.heap.size + 2, 0, none⟩) (by simp) (.slice none 0 0)).setCell (p := ⟨w.heap.size + 2, 1, none⟩) (by simp) (.int .i64 0)
      go_wp2_with (fail)
      refine bodyPost_ret (v := .tuple #[.agg #[.slice none 0 0, .int .i64 0], .int .i64 1]) (by simp [results, Try.results22, go_sem, bl2, a20, a21]) rfl ?_
      rw [HE.out.1, HE.out.2]
      exact MadeC.zero bw5
    | true =>
      have HC2 : Hid (∀ W, spAb.rd W (.agg #[.slice A1 F1.length c1, .int .i64 K1]) ⟨F1, K1⟩ → Calls Try.prog 46 #[.agg #[.slice A1 F1.length c1, .int .i64 K1]] W (RetB true W)) := Lib.hid fun W hW => isAb_yes _ _ _ hW hk1
      have HE := Lib.hid (Ab.sum_ok (x := ⟨F0, K0⟩) (y := ⟨F1, K1⟩) hk0 hk1)
      obtain ⟨g1, g2, g3, g4, g5⟩ := Ab.ok_out hk0
      obtain ⟨k1, k2, k3, k4, k5⟩ := Ab.ok_out hk1
      dsimp only at g1 g2 g3 g4 g5 k1 k2 k3 k4 k5
      have H0 : Hid (∀ W, spAb.rd W (.agg #[.slice A0 F0.length c0, .int .i64 K0]) ⟨F0, K0⟩ → Calls Try.prog 47 #[.agg #[.slice A0 F0.length c0, .int .i64 K0]] W fun e w' => ∃ v, e = .returned v ∧ spI.rd w' v (Num.chainL F0 K0) ∧ Below W.heap.size W w') := Lib.hid fun W hW => chainFor_any _ ⟨F0, K0⟩ W hW hk0
      have H1 : Hid (∀ W, spAb.rd W (.agg #[.slice A1 F1.length c1, .int .i64 K1]) ⟨F1, K1⟩ → Calls Try.prog 47 #[.agg #[.slice A1 F1.length c1, .int .i64 K1]] W fun e w' => ∃ v, e = .returned v ∧ spI.rd w' v (Num.chainL F1 K1) ∧ Below W.heap.size W w') := Lib.hid fun W hW => chainFor_any _ ⟨F1, K1⟩ W hW hk1
      have lx : (Num.chainL F0 K0).length ≤ 10 := by rw [Num.chainL_len]; omega
      have ly : (Num.chainL F1 K1).length ≤ 10 := by rw [Num.chainL_len]; omega
      have HGB : Hid (∀ z ∈ Num.chainL F0 K0 ++ Num.chainL F1 K1, 0 ≤ z ∧ z ≤ 1000000) := Lib.hid fun z hz => by
        rw [List.mem_append] at hz
        rcases hz with hz | hz
        · rcases Num.chainL_mem hz with hz | hz
          · have := Num.mem_at (P := fun f => 2 ≤ f ∧ f ≤ 1000000) g4 z hz
            omega
          · omega
        · rcases Num.chainL_mem hz with hz | hz
          · have := Num.mem_at (P := fun f => 2 ≤ f ∧ f ≤ 1000000) k4 z hz
            omega
          · omega
      clear hk0 hk1 hA0 hm0 hA1 hm1 g1 g2 g3 g4 g5 k1 k2 k3 k4 k5
      dsimp only at HE
      generalize Num.chainL F0 K0 = x at *
      generalize Num.chainL F1 K1 = y at *
      obtain ⟨bl0, a00, a01⟩ := Ba.c2
      obtain ⟨bl1, a10, a11⟩ := Bb.c2
      obtain ⟨bl2, a20, a21⟩ := BR.c2
      have fr0 := BR.free 0
      have fr1 := BR.free 1
      go_enter Try.func22, Try.ntmps22
      go_wp2_with (fail)
      refine HC.out.mono ?_; rintro e w1 ⟨rfl, hb⟩
      replace L := bstep L L.size hb
      replace Ba := Ba.below hb
      replace Bb := Bb.below hb
      replace BR := BR.below hb
      replace R0 := Lib.hid (spAb.rd_below R0.out hb)
      replace R1 := Lib.hid (spAb.rd_below R1.out hb)
      clear a00 a01 a10 a11 a20 a21 bl0 bl1 bl2 fr0 fr1 HC hb
      obtain ⟨bl0, a00, a01⟩ := Ba.c2
      obtain ⟨bl1, a10, a11⟩ := Bb.c2
      obtain ⟨bl2, a20, a21⟩ := BR.c2
      have fr0 := BR.free 0
      have fr1 := BR.free 1
      go_wp2_with (fail)
      refine (HC2.out _ R1.out).mono ?_; rintro e w2 ⟨rfl, hb⟩
      replace L := bstep L L.size hb
      replace Ba := Ba.below hb
      replace Bb := Bb.below hb
      replace BR := BR.below hb
      replace R0 := Lib.hid (spAb.rd_below R0.out hb)
      replace R1 := Lib.hid (spAb.rd_below R1.out hb)
      clear a00 a01 a10 a11 a20 a21 bl0 bl1 bl2 fr0 fr1 HC2 hb
      obtain ⟨bl0, a00, a01⟩ := Ba.c2
      obtain ⟨bl1, a10, a11⟩ := Bb.c2
      obtain ⟨bl2, a20, a21⟩ := BR.c2
      have fr0 := BR.free 0
      have fr1 := BR.free 1
      have LC0 : Below w2.heap.size w2 w2.drew := (Below.refl _ _).drew
      have HD : Hid (∀ W v, spI.rd W v (x ++ y) → Calls Try.prog 51 #[v] W (MadeC spAb (rDir (x ++ y)) (cDir (x ++ y)) W)) := Lib.hid fun W v hv => directProduct_any v (x ++ y) W hv (by simp; omega) HGB.out
      have BRH := Lib.hid BR
      have ne2 : ¬ (w.heap.size = w.heap.size + 1 + 1) := by omega
      have ne3 : ¬ (w.heap.size = w.heap.size + 2) := by omega
      clear HGB
      go_wp2_with (fail)
      go_region_held3 (fun wx => wx.cell? ⟨w.heap.size, 0, none⟩ = some (.slice A0 F0.length c0) ∧ wx.cell? ⟨w.heap.size, 1, none⟩ = some (.int .i64 K0) ∧ wx.cell? ⟨w.heap.size + 1, 0, none⟩ = some (.slice A1 F1.length c1) ∧ wx.cell? ⟨w.heap.size + 1, 1, none⟩ = some (.int .i64 K1)) (first | assumption | go_keep) (first
        | (go_at_call 47; (with_reducible refine (H0.out _ (spAb.rd_below R0.out LC0)).mono ?_); rintro e w3 ⟨u3, rfl, hr3, hb3⟩; have LC1 := bstep LC0 LC0.size hb3; obtain ⟨B3, d3, rfl, hl3, hq3⟩ := hr3; have SMw3 : w3.cell? ⟨w.heap.size, 0, none⟩ = some (.slice A0 F0.length c0) ∧ w3.cell? ⟨w.heap.size, 1, none⟩ = some (.int .i64 K0) ∧ w3.cell? ⟨w.heap.size + 1, 0, none⟩ = some (.slice A1 F1.length c1) ∧ w3.cell? ⟨w.heap.size + 1, 1, none⟩ = some (.int .i64 K1) := ⟨(Blk.cell (Ba.below LC1) 0 (by simp)), (Blk.cell (Ba.below LC1) 1 (by simp)), (Blk.cell (Bb.below LC1) 0 (by simp)), (Blk.cell (Bb.below LC1) 1 (by simp))⟩)
        | (go_at_call 47; (with_reducible refine (H1.out _ (spAb.rd_below R1.out LC1)).mono ?_); rintro e w4 ⟨u4, rfl, hr4, hb4⟩; have LC2 := bstep LC1 LC1.size hb4; obtain ⟨B4, d4, rfl, hl4, hq4⟩ := hr4; have SMw4 : w4.cell? ⟨w.heap.size, 0, none⟩ = some (.slice A0 F0.length c0) ∧ w4.cell? ⟨w.heap.size, 1, none⟩ = some (.int .i64 K0) ∧ w4.cell? ⟨w.heap.size + 1, 0, none⟩ = some (.slice A1 F1.length c1) ∧ w4.cell? ⟨w.heap.size + 1, 1, none⟩ = some (.int .i64 K1) := ⟨(Blk.cell (Ba.below LC2) 0 (by simp)), (Blk.cell (Ba.below LC2) 1 (by simp)), (Blk.cell (Bb.below LC2) 0 (by simp)), (Blk.cell (Bb.below LC2) 1 (by simp))⟩; have LC3 : Below w2.heap.size w2 (w4.alloc (.cells #[.slice B3 x.length d3, .slice B4 y.length d4] 77)) := LC2.alloc LC2.size _; have bl4 := Blk.new w4 [.slice B3 x.length d3, .slice B4 y.length d4] 77; have HCC := Lib.hid (concatCC_any (.slice B3 x.length d3) (.slice B4 y.length d4) x y w4.heap.size _ ⟨B3, d3, rfl, hl3, (hq3.below' hb4).below' ((Below.refl _ _).alloc (Nat.le_refl _) _)⟩ ⟨B4, d4, rfl, hl4, hq4.below' ((Below.refl _ _).alloc (Nat.le_refl _) _)⟩ (by omega) bl4.c2.2.1 bl4.c2.2.2))
        | (go_at_call 52; (with_reducible refine HCC.out.mono ?_); rintro e w5 ⟨u5, rfl, hr5, hb5⟩; have LC4 := bstep LC3 LC3.size hb5; have SMw5 : w5.cell? ⟨w.heap.size, 0, none⟩ = some (.slice A0 F0.length c0) ∧ w5.cell? ⟨w.heap.size, 1, none⟩ = some (.int .i64 K0) ∧ w5.cell? ⟨w.heap.size + 1, 0, none⟩ = some (.slice A1 F1.length c1) ∧ w5.cell? ⟨w.heap.size + 1, 1, none⟩ = some (.int .i64 K1) := ⟨(Blk.cell (Ba.below LC4) 0 (by simp)), (Blk.cell (Ba.below LC4) 1 (by simp)), (Blk.cell (Bb.below LC4) 0 (by simp)), (Blk.cell (Bb.below LC4) 1 (by simp))⟩)
        | (go_at_call 51; (with_reducible refine (HD.out _ _ hr5.rd).mono ?_); rintro e w6 ⟨u6, S6, rfl, ow6, hS6, hcn, hb6⟩; have LC5 := bstep LC4 LC4.size hb6; obtain ⟨A6, n6, c6, rfl, r6⟩ := spAb_form (spAb.own_rd ow6); have SMw6 : w6.cell? ⟨w.heap.size, 0, none⟩ = some (.slice A0 F0.length c0) ∧ w6.cell? ⟨w.heap.size, 1, none⟩ = some (.int .i64 K0) ∧ w6.cell? ⟨w.heap.size + 1, 0, none⟩ = some (.slice A1 F1.length c1) ∧ w6.cell? ⟨w.heap.size + 1, 1, none⟩ = some (.int .i64 K1) := ⟨(Blk.cell (Ba.below LC5) 0 (by simp)), (Blk.cell (Ba.below LC5) 1 (by simp)), (Blk.cell (Bb.below LC5) 0 (by simp)), (Blk.cell (Bb.below LC5) 1 (by simp))⟩; obtain ⟨rr2, rr0, rr1⟩ := (BRH.out.below LC5).c2; have rf0 := (BRH.out.below LC5).free 0; have rf1 := (BRH.out.below LC5).free 1; have kc0 := fun u u' => (cell_two (w := w6) (b := w.heap.size) (k := w.heap.size + 1 + 1) (o := 0) (by omega) u u').trans SMw6.1; have kc1 := fun u u' => (cell_two (w := w6) (b := w.heap.size) (k := w.heap.size + 1 + 1) (o := 1) (by omega) u u').trans SMw6.2.1))
      all_goals
        have LZ := bstep L L.size LC5
        have bw5 := (LZ.setCell (p := ⟨w.heap.size + 2, 0, none⟩) (by simp) (.slice A6 n6 c6)).setCell (p := ⟨w.heap.size + 2, 1, none⟩) (by simp) (.int .i64 (rDir (x ++ y)).K)
        have hlow : ∀ k, S6 k → w.heap.size + 3 ≤ k := fun k hk => by have h1 := hS6 k hk; have h2 := LC4.size; have h3 := BR.lt; omega
        have HLOW := Lib.hid hlow
        have ns : ¬ S6 (w.heap.size + 2) := fun hs => by have := hlow _ hs; omega
        have HOWN := Lib.hid (spAb.own_set (spAb.own_set ow6 (p := ⟨w.heap.size + 2, 0, none⟩) ns (.slice A6 n6 c6)) (p := ⟨w.heap.size + 2, 1, none⟩) ns (.int .i64 (rDir (x ++ y)).K))
        have HCN := Lib.hid hcn
        clear SMw3 SMw4 SMw5 SMw6 kc0 kc1 LC0 LC1 LC2 LC3 LC4 LC5 Ba Bb BR BRH R0 R1 H0 H1 HD HCC hb3 hb4 hb5 hb6 hq3 hq4 bl4 hr5 hS6 hlow ow6 r6 hcn L LZ a00 a01 a10 a11 a20 a21 bl0 bl1 bl2 fr0 fr1
        generalize rDir (x ++ y) = R at *
        generalize cDir (x ++ y) = CD at *
        go_wp2_with (fail)
        refine bodyPost_ret (v := .tuple #[.agg #[.slice A6 n6 c6, .int .i64 R.K], .int .i64 CD]) (by simp [results, Try.results22, go_sem, rr2, rr0, rr1]) rfl ?_
        rw [HE.out.1, HE.out.2]
        exact ⟨_, S6, rfl, HOWN.out, fun k hk => by have := HLOW.out k hk; omega, HCN.out, bw5⟩
theorem iSumAbelian_ok (v0 : Value) (x0 : Ab) (v1 : Value) (x1 : Ab) (w : World) (h0 : spAb.rd w v0 x0) (h1 : spAb.rd w v1 x1) (s0 : spAb.sz x0 ≤ 1048576) (s1 : spAb.sz x1 ≤ 1048576) : Calls Try.prog 22 #[v0, v1] w (MadeC spAb (rSumAbelian x0 x1) (cSumAbelian x0 x1) w) := iSumAbelian_any v0 v1 x0 x1 w h0 h1
end Go.Proofs.Ytpplojbcjgiabaa
