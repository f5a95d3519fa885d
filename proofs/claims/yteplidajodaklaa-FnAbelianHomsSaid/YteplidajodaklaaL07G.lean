/- CountAbelianHoms of the program. -/
import Derived.Test.YteplidajodaklaaL07F
namespace Go.Proofs.Yteplidajodaklaa
open Go.RowKit
set_option linter.unusedVariables false
set_option linter.unusedSimpArgs false

theorem Ab.ok_mem {x : Ab} (h : x.ok = true) : ∀ t ∈ x.F, 1 ≤ t := Num.mem_at fun j hj => Ab.ok_pos h j hj
def rCountAbelianHoms (x y : Ab) : Int := if x.ok = true ∧ y.ok = true then (if y.K = 0 then Num.cnt (Num.homsI (Num.chainL x.F x.K) y.F) else 0) else 0
def cCountAbelianHoms (x y : Ab) : Int := if x.ok = true ∧ y.ok = true then (if y.K = 0 then Num.cntC (Num.homsI (Num.chainL x.F x.K) y.F) else 5) else 1
theorem Ab.hom_bad {x y : Ab} (h : x.ok = false ∨ y.ok = false) : rCountAbelianHoms x y = 0 ∧ cCountAbelianHoms x y = 1 := by
  unfold rCountAbelianHoms cCountAbelianHoms
  rcases h with h | h <;> simp [h]
theorem Ab.hom_inf {x y : Ab} (h : x.ok = true) (h' : y.ok = true) (hk : ¬ y.K = 0) : rCountAbelianHoms x y = 0 ∧ cCountAbelianHoms x y = 5 := by
  unfold rCountAbelianHoms cCountAbelianHoms
  simp [h, h', hk]
theorem Ab.hom_ok {x y : Ab} (h : x.ok = true) (h' : y.ok = true) (hk : y.K = 0) : rCountAbelianHoms x y = Num.cnt (Num.homsI (Num.chainL x.F x.K) y.F) ∧ cCountAbelianHoms x y = Num.cntC (Num.homsI (Num.chainL x.F x.K) y.F) := by
  unfold rCountAbelianHoms cCountAbelianHoms
  simp [h, h', hk]
set_option maxRecDepth 100000 in
set_option maxHeartbeats 2000000 in
theorem iCountAbelianHoms_any (v0 v1 : Value) (x0 x1 : Ab) (w : World) (h0 : spAb.rd w v0 x0) (h1 : spAb.rd w v1 x1) : Calls Try.prog 7 #[v0, v1] w (RetI (rCountAbelianHoms x0 x1) (cCountAbelianHoms x0 x1) w) := by
  obtain ⟨i0, hi, hz0, hz1, hz2⟩ := info_parts infoI
  obtain ⟨F0, K0⟩ := x0
  obtain ⟨_, rfl, A0, c0, rfl, hm0, hA0⟩ := h0
  replace hA0 : RdI w A0 F0 := hA0
  replace hm0 : F0.length ≤ maxLen := hm0
  obtain ⟨F1, K1⟩ := x1
  obtain ⟨_, rfl, A1, c1, rfl, hm1, hA1⟩ := h1
  replace hA1 : RdI w A1 F1 := hA1
  replace hm1 : F1.length ≤ maxLen := hm1
  have L : Below w.heap.size w ((w.alloc (.cells [.slice A0 F0.length c0, .int .i64 K0].toArray 26)).alloc (.cells [.slice A1 F1.length c1, .int .i64 K1].toArray 26)) := by go_grown
  have Ba : Blk ((w.alloc (.cells [.slice A0 F0.length c0, .int .i64 K0].toArray 26)).alloc (.cells [.slice A1 F1.length c1, .int .i64 K1].toArray 26)) w.heap.size [.slice A0 F0.length c0, .int .i64 K0] 26 := (Blk.new w [.slice A0 F0.length c0, .int .i64 K0] _).alloc _
  have Bb : Blk ((w.alloc (.cells [.slice A0 F0.length c0, .int .i64 K0].toArray 26)).alloc (.cells [.slice A1 F1.length c1, .int .i64 K1].toArray 26)) (w.heap.size + 1) [.slice A1 F1.length c1, .int .i64 K1] 26 := by have := Blk.new (w.alloc (.cells [.slice A0 F0.length c0, .int .i64 K0].toArray 26)) [.slice A1 F1.length c1, .int .i64 K1] 26; rwa [World.size_alloc] at this
  have R0 := Lib.hid (spAb.rd_below (x := ⟨F0, K0⟩) (v := .agg #[.slice A0 F0.length c0, .int .i64 K0]) ⟨_, rfl, A0, c0, rfl, hm0, hA0⟩ L)
  have R1 := Lib.hid (spAb.rd_below (x := ⟨F1, K1⟩) (v := .agg #[.slice A1 F1.length c1, .int .i64 K1]) ⟨_, rfl, A1, c1, rfl, hm1, hA1⟩ L)
  cases hk0 : Ab.ok ⟨F0, K0⟩ with
  | false =>
    have HE := Lib.hid (Ab.hom_bad (x := ⟨F0, K0⟩) (y := ⟨F1, K1⟩) (.inl hk0))
    have HC := Lib.hid (isAb_no _ _ _ R0.out hk0)
    clear hk0 hA0 hm0 hA1 hm1
    obtain ⟨bl0, a00, a01⟩ := Ba.c2
    obtain ⟨bl1, a10, a11⟩ := Bb.c2
    go_enter Try.func7, Try.ntmps7
    go_wp2_with (fail)
    refine HC.out.mono ?_; rintro e w1 ⟨rfl, hb⟩
    replace L := bstep L L.size hb
    replace Ba := Ba.below hb
    replace Bb := Bb.below hb
    replace R0 := Lib.hid (spAb.rd_below R0.out hb)
    replace R1 := Lib.hid (spAb.rd_below R1.out hb)
    clear a00 a01 a10 a11 bl0 bl1 HC hb
    obtain ⟨bl0, a00, a01⟩ := Ba.c2
    obtain ⟨bl1, a10, a11⟩ := Bb.c2
    go_wp2_with (fail)
    refine bodyPost_ret (v := .tuple #[.int .i64 0, .int .i64 1]) (by simp [results, Try.results7, go_sem]) rfl ?_
    rw [HE.out.1, HE.out.2]
    exact ⟨rfl, L⟩
  | true =>
    have HC := Lib.hid (isAb_yes _ _ _ R0.out hk0)
    cases hk1 : Ab.ok ⟨F1, K1⟩ with
    | false =>
      have HE := Lib.hid (Ab.hom_bad (x := ⟨F0, K0⟩) (y := ⟨F1, K1⟩) (.inr hk1))
      have HC2 : Hid (∀ W, spAb.rd W (.agg #[.slice A1 F1.length c1, .int .i64 K1]) ⟨F1, K1⟩ → Calls Try.prog 22 #[.agg #[.slice A1 F1.length c1, .int .i64 K1]] W (RetB false W)) := Lib.hid fun W hW => isAb_no _ _ _ hW hk1
      clear hk0 hk1 hA0 hm0 hA1 hm1
      obtain ⟨bl0, a00, a01⟩ := Ba.c2
      obtain ⟨bl1, a10, a11⟩ := Bb.c2
      go_enter Try.func7, Try.ntmps7
      go_wp2_with (fail)
      refine HC.out.mono ?_; rintro e w1 ⟨rfl, hb⟩
      replace L := bstep L L.size hb
      replace Ba := Ba.below hb
      replace Bb := Bb.below hb
      replace R0 := Lib.hid (spAb.rd_below R0.out hb)
      replace R1 := Lib.hid (spAb.rd_below R1.out hb)
      clear a00 a01 a10 a11 bl0 bl1 HC hb
      obtain ⟨bl0, a00, a01⟩ := Ba.c2
      obtain ⟨bl1, a10, a11⟩ := Bb.c2
      go_wp2_with (fail)
      refine (HC2.out _ R1.out).mono ?_; rintro e w2 ⟨rfl, hb⟩
      replace L := bstep L L.size hb
      replace Ba := Ba.below hb
      replace Bb := Bb.below hb
      replace R0 := Lib.hid (spAb.rd_below R0.out hb)
      replace R1 := Lib.hid (spAb.rd_below R1.out hb)
      clear a00 a01 a10 a11 bl0 bl1 HC2 hb
      obtain ⟨bl0, a00, a01⟩ := Ba.c2
      obtain ⟨bl1, a10, a11⟩ := Bb.c2
      go_wp2_with (fail)
      refine bodyPost_ret (v := .tuple #[.int .i64 0, .int .i64 1]) (by simp [results, Try.results7, go_sem]) rfl ?_
      rw [HE.out.1, HE.out.2]
      exact ⟨rfl, L⟩
    | true =>
      have HC2 : Hid (∀ W, spAb.rd W (.agg #[.slice A1 F1.length c1, .int .i64 K1]) ⟨F1, K1⟩ → Calls Try.prog 22 #[.agg #[.slice A1 F1.length c1, .int .i64 K1]] W (RetB true W)) := Lib.hid fun W hW => isAb_yes _ _ _ hW hk1
      by_cases hKK : K1 = 0
      · have HE := Lib.hid (Ab.hom_ok hk0 hk1 hKK)
        subst hKK
        obtain ⟨bx, lx⟩ := Ab.ok_bd hk0
        have HX : Hid (∀ j, 0 ≤ (Num.chainL F0 K0).getD j 0 ∧ (Num.chainL F0 K0).getD j 0 ≤ 1000000) := Lib.hid bx
        have HY : Hid (∀ j, j < F1.length → 2 ≤ F1.getD j 0 ∧ F1.getD j 0 ≤ 1000000) := Lib.hid fun j hj => (Ab.ok_out hk1).2.2.2.1 j hj
        have lx : (Num.chainL F0 K0).length ≤ 10 := lx
        have ly : F1.length ≤ 10 := (Ab.ok_out hk1).1
        have HYM : Hid (∀ t ∈ F1, 1 ≤ t) := Lib.hid (Ab.ok_mem hk1)
        rw [HE.out.1, HE.out.2]
        clear HE bx
        dsimp only
        have H0 : Hid (∀ W, spAb.rd W (.agg #[.slice A0 F0.length c0, .int .i64 K0]) ⟨F0, K0⟩ → Calls Try.prog 23 #[.agg #[.slice A0 F0.length c0, .int .i64 K0]] W fun e w' => ∃ v, e = .returned v ∧ spI.rd w' v (Num.chainL F0 K0) ∧ Below W.heap.size W w') := Lib.hid fun W hW => chainFor_any _ ⟨F0, K0⟩ W hW hk0
        have H1 : Hid (∀ W, spAb.rd W (.agg #[.slice A1 F1.length c1, .int .i64 0]) ⟨F1, 0⟩ → Calls Try.prog 23 #[.agg #[.slice A1 F1.length c1, .int .i64 0]] W fun e w' => ∃ v, e = .returned v ∧ OwnC w' W.heap.size v F1 ∧ Below W.heap.size W w') := Lib.hid fun W hW => by
          have := chainFor_own _ ⟨F1, 0⟩ W hW hk1
          rwa [show Num.chainL (Ab.mk F1 0).F (Ab.mk F1 0).K = F1 by simp [Num.chainL]] at this
        have HCP : Hid (∀ W A' c' R, R = Num.homsI (Num.chainL F0 K0) F1 → RdI W A' R → R.length ≤ 200 → Calls Try.prog 25 #[.slice A' R.length c'] W fun e w' => e = .returned (.tuple #[.int .i64 (Num.cnt R), .int .i64 (Num.cntC R)]) ∧ w' = W) := Lib.hid fun W A' c' R hR hW hl => (countProd_any A' c' R W hW (by unfold maxLen; omega) (fun j hj => Num.at_mem hj (by rw [hR]; exact Num.homsI_pos HYM.out))).mono (by rintro e w' ⟨rfl, rfl⟩; exact ⟨rfl, rfl⟩)
        have HNE : Hid (Num.nest (fun f t => (Int.gcd f t : Int)) (Num.chainL F0 K0) F1 (Num.chainL F0 K0).length 0 = Num.homsI (Num.chainL F0 K0) F1) := Lib.hid Num.nest_end
        clear hk0 hk1 hA0 hm0 hA1 hm1 HYM
        generalize Num.homsI (Num.chainL F0 K0) F1 = R at *
        generalize Num.chainL F0 K0 = x at *
        have HG1 : Hid (∀ j i, i < F1.length → Num.nest (fun f t => (Int.gcd f t : Int)) x F1 j (i + 1) = Num.nest (fun f t => (Int.gcd f t : Int)) x F1 j i ++ [(Int.gcd (x.getD j 0) (F1.getD i 0) : Int)]) := Lib.hid fun j i hi => Num.nest_in hi
        have HG2 : Hid (∀ j, j < x.length → Num.nest (fun f t => (Int.gcd f t : Int)) x F1 (j + 1) 0 = Num.nest (fun f t => (Int.gcd f t : Int)) x F1 j F1.length) := Lib.hid fun j hj => Num.nest_out hj
        have HGL : Hid (∀ j i, (Num.nest (fun f t => (Int.gcd f t : Int)) x F1 j i).length ≤ 200) := Lib.hid fun j i => Num.nest_len lx ly
        have HG0 := Lib.hid (Num.nest_start (fun f t => (Int.gcd f t : Int)) x F1)
        generalize hNN : Num.nest (fun f t => (Int.gcd f t : Int)) x F1 = NN at *
        clear hNN
        obtain ⟨bl0, a00, a01⟩ := Ba.c2
        obtain ⟨bl1, a10, a11⟩ := Bb.c2
        go_enter Try.func7, Try.ntmps7
        go_wp2_with (fail)
        refine HC.out.mono ?_; rintro e w1 ⟨rfl, hb⟩
        replace L := bstep L L.size hb
        replace Ba := Ba.below hb
        replace Bb := Bb.below hb
        replace R0 := Lib.hid (spAb.rd_below R0.out hb)
        replace R1 := Lib.hid (spAb.rd_below R1.out hb)
        clear a00 a01 a10 a11 bl0 bl1 HC hb
        obtain ⟨bl0, a00, a01⟩ := Ba.c2
        obtain ⟨bl1, a10, a11⟩ := Bb.c2
        go_wp2_with (fail)
        refine (HC2.out _ R1.out).mono ?_; rintro e w2 ⟨rfl, hb⟩
        replace L := bstep L L.size hb
        replace Ba := Ba.below hb
        replace Bb := Bb.below hb
        replace R0 := Lib.hid (spAb.rd_below R0.out hb)
        replace R1 := Lib.hid (spAb.rd_below R1.out hb)
        clear a00 a01 a10 a11 bl0 bl1 HC2 hb
        obtain ⟨bl0, a00, a01⟩ := Ba.c2
        obtain ⟨bl1, a10, a11⟩ := Bb.c2
        go_wp2_with (fail)
        refine (H0.out _ R0.out).mono ?_; rintro e w3 ⟨u3, rfl, hr3, hb3⟩
        obtain ⟨B3, d3, rfl, -, hq3⟩ := hr3
        have HQ3 := Lib.hid hq3
        replace L := bstep L L.size hb3
        replace Ba := Ba.below hb3
        replace Bb := Bb.below hb3
        replace R1 := Lib.hid (spAb.rd_below R1.out hb3)
        clear a00 a01 a10 a11 bl0 bl1 H0 hb3 hq3 R0
        obtain ⟨bl0, a00, a01⟩ := Ba.c2
        obtain ⟨bl1, a10, a11⟩ := Bb.c2
        go_wp2_with (fail)
        clear a00 a01 a10 a11 bl0 bl1
        go_loopw [6, 27] (fun s6 s27 wr => ∃ j : Nat, j ≤ x.length ∧ s27 = .int .i64 j ∧ Hid (OwnI wr w3.heap.size s6 (NN j 0)) ∧ Below w3.heap.size w3 wr) (fun _ s27 _ => x.length - (intOf s27).toNat)
        case atStart => exact ⟨0, by omega, rfl, Lib.hid (by rw [HG0.out]; exact World.ownsRow_nil _ _ _ _), Below.refl _ _⟩
        case round =>
          obtain ⟨j, hj, rfl, HO, bw⟩ := hrel
          obtain ⟨bl1, a10, a11⟩ := (Bb.below bw).c2
          by_cases hlt : j < x.length
          · obtain ⟨g, o, rfl, hg, hc⟩ := (HQ3.out.below' bw) j hlt
            have j0 : (0 : Int) ≤ (j : Int) := by omega
            have j1 : (j : Int) < (x.length : Int) := by omega
            obtain ⟨xx0, xx1⟩ := HX.out j
            have HGJ : Hid (∀ i, i < F1.length → NN j (i + 1) = NN j i ++ [(Int.gcd (x.getD j 0) (F1.getD i 0) : Int)]) := Lib.hid fun i hi => HG1.out j i hi
            have HGN := Lib.hid (HG2.out j hlt)
            have HGM : Hid (∀ i, (NN j i).length ≤ 200) := Lib.hid fun i => HGL.out j i
            have RD1 := Lib.hid (spAb.rd_below R1.out bw)
            have HLT : Hid (∀ k, u6.ownBlock = some k → k < wr.heap.size) := Lib.hid fun k hk => (World.ownsRow.lt HO.out k hk).2
            generalize x.getD j 0 = X at *
            go_wp2_with (fail)
            refine (H1.out _ RD1.out).mono ?_; rintro e w4 ⟨u4, rfl, ho4, hb4⟩
            obtain ⟨B4, d4, e4, -, hq4⟩ := ho4.rd
            subst e4
            have HQ4 := Lib.hid hq4
            have HO4 := Lib.hid (HO.out.below hb4)
            have bw4 := bstep bw bw.size hb4
            have HAP : Hid (∀ g o, B4 = some ⟨g, o, none⟩ → ∀ k, u6.ownBlock = some k → k ≠ g) := Lib.hid fun g o e k hk => by
              have h1 := HLT.out k hk
              have h2 := (World.ownsRow.lt ho4 g (by rw [e]; rfl)).1
              omega
            clear hb4 hq4 a10 a11 bl1 hc ho4
            generalize wr = W0 at *
            go_wp2_with (fail)
            go_loopw [6, 34] (fun s6 s34 wq => ∃ i : Nat, i ≤ F1.length ∧ s34 = .int .i64 i ∧ Hid (OwnI wq w3.heap.size s6 (NN j i)) ∧ Hid (RdI wq B4 F1) ∧ Hid (∀ g o, B4 = some ⟨g, o, none⟩ → ∀ k, s6.ownBlock = some k → k ≠ g) ∧ Below w3.heap.size w3 wq) (fun _ s34 _ => F1.length - (intOf s34).toNat)
            case atStart => exact ⟨0, by omega, rfl, HO4, HQ4, HAP, bw4⟩
            case round =>
              obtain ⟨i, hi', rfl, HO5, HQ5, HAP5, bw5⟩ := hrel
              clear HO4 HQ4 HAP
              by_cases hlt5 : i < F1.length
              · obtain ⟨g5, o5, rfl, hg5, hc5⟩ := HQ5.out i hlt5
                have i0' : (0 : Int) ≤ (i : Int) := by omega
                have i1 : (i : Int) < (F1.length : Int) := by omega
                obtain ⟨y0, y1⟩ := HY.out i hlt5
                have EC := Lib.hid (HGJ.out i hlt5)
                have xl := HGM.out i
                have HB := Lib.hid HO5.out.base_le
                have bws := bw5.size
                generalize F1.getD i 0 = Y at *
                generalize NN j i = P at *
                have HGC := Lib.hid (divisorWith_any X Y wr xx0 xx1 (by omega) y1)
                generalize (Int.gcd X Y : Int) = G at *
                go_wp2_with (fail)
                refine HGC.out.mono ?_; rintro e w6 ⟨rfl, hb⟩
                have HO6 := Lib.hid (HO5.out.below hb)
                have HQ6 := Lib.hid (HQ5.out.below' hb)
                have bw6 := bstep bw5 bw5.size hb
                have bws6 := bw6.size
                have hg6 : g5 < w6.heap.size := Nat.lt_of_lt_of_le hg5 hb.size
                clear HGC hb
                go_wp2_with (first | (at_builtin; refine wpList_append_own_at _ rfl (.tmp 38) (.tmp 42) 24 rfl w3.heap.size 2 i0 (.int .i64 0) 1 8 Try.underlying24 hi hz0 hz1 hz2 rfl (by decide) _ _ _ rfl (HO6.out.alloc _) ⟨_, 0, none⟩ 1 1 [.int .i64 G] rfl rfl (cell_one_new _ _ _) (by simp [Value.oneCell']) (by unfold maxLen; omega) (by omega) (by simp; omega) ?_; intro v3 w3 own3 gr3 _ at3))
                exact ⟨⟨i + 1, by omega, by go_num, Lib.hid (by rw [EC.out]; exact OwnI.snoc own3), Lib.hid ((HQ6.out.below' ((Below.refl _ _).alloc (Nat.le_refl _) _)).grown gr3 (fun g o e k => HAP5.out g o e g k.symm rfl)), Lib.hid (fun g o e k hk => by
                  rcases at3 with h | h
                  · exact HAP5.out g o e k (h.symm.trans hk)
                  · rw [h] at hk
                    simp at hk e
                    omega), (bw6.alloc (by omega) _).grown gr3 (by simp; omega) HB.out⟩, by simp [intOf]; omega⟩
              · obtain rfl : i = F1.length := by omega
                have hge : ¬ ((F1.length : Int) < (F1.length : Int)) := by omega
                go_wp2_with (fail)
                exact ⟨⟨j + 1, by omega, by go_num, Lib.hid (by rw [HGN.out]; exact HO5.out), bw5⟩, by simp [intOf]; omega⟩
          · obtain rfl : j = x.length := by omega
            have hge : ¬ ((x.length : Int) < (x.length : Int)) := by omega
            have LZ := bstep L L.size bw
            rw [HNE.out] at HO
            obtain ⟨A', c', rfl⟩ := HO.out.form
            have HCP2 := Lib.hid (HCP.out wr A' c' R rfl HO.out.reads (by rw [← HNE.out]; exact HGL.out _ _))
            clear HCP HO HNE
            go_wp2_with (fail)
            refine HCP2.out.mono ?_; rintro e w8 ⟨rfl, rfl⟩
            clear HCP2
            go_wp2_with (fail)
            refine bodyPost_ret (v := .tuple #[.int .i64 (Num.cnt R), .int .i64 (Num.cntC R)]) (by simp [results, Try.results7, go_sem]) rfl ?_
            exact ⟨rfl, LZ⟩
      · have HE := Lib.hid (Ab.hom_inf hk0 hk1 hKK)
        have T1 : (K1 != 0) = true := bne_iff_ne.mpr hKK
        clear hk0 hk1 hA0 hm0 hA1 hm1
        obtain ⟨bl0, a00, a01⟩ := Ba.c2
        obtain ⟨bl1, a10, a11⟩ := Bb.c2
        go_enter Try.func7, Try.ntmps7
        go_wp2_with (fail)
        refine HC.out.mono ?_; rintro e w1 ⟨rfl, hb⟩
        replace L := bstep L L.size hb
        replace Ba := Ba.below hb
        replace Bb := Bb.below hb
        replace R0 := Lib.hid (spAb.rd_below R0.out hb)
        replace R1 := Lib.hid (spAb.rd_below R1.out hb)
        clear a00 a01 a10 a11 bl0 bl1 HC hb
        obtain ⟨bl0, a00, a01⟩ := Ba.c2
        obtain ⟨bl1, a10, a11⟩ := Bb.c2
        go_wp2_with (fail)
        refine (HC2.out _ R1.out).mono ?_; rintro e w2 ⟨rfl, hb⟩
        replace L := bstep L L.size hb
        replace Ba := Ba.below hb
        replace Bb := Bb.below hb
        replace R0 := Lib.hid (spAb.rd_below R0.out hb)
        replace R1 := Lib.hid (spAb.rd_below R1.out hb)
        clear a00 a01 a10 a11 bl0 bl1 HC2 hb
        obtain ⟨bl0, a00, a01⟩ := Ba.c2
        obtain ⟨bl1, a10, a11⟩ := Bb.c2
        go_wp2_with (fail)
        refine bodyPost_ret (v := .tuple #[.int .i64 0, .int .i64 5]) (by simp [results, Try.results7, go_sem]) rfl ?_
        rw [HE.out.1, HE.out.2]
        exact ⟨rfl, L⟩
end Go.Proofs.Yteplidajodaklaa
