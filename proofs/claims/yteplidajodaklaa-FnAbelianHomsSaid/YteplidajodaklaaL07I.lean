/- CountAbelianHoms of the model. -/
import Derived.Test.YteplidajodaklaaL07G
import Derived.Deep.AppendLies
namespace Go.Proofs.Yteplidajodaklaa
open Go.RowKit
set_option linter.unusedVariables false
set_option linter.unusedSimpArgs false
set_option maxRecDepth 100000 in
set_option maxHeartbeats 4000000 in
theorem sCountAbelianHoms_any (v0 v1 : Value) (x0 x1 : Ab) (w : World) (h0 : spAb.rd w v0 x0) (h1 : spAb.rd w v1 x1) : Calls Try.prog 8 #[v0, v1] w (RetI (rCountAbelianHoms x0 x1) (cCountAbelianHoms x0 x1) w) := by
  obtain ⟨i0, hi, hz0, hz1, hz2⟩ := info_parts infoI
  obtain ⟨F0, K0⟩ := x0
  obtain ⟨_, rfl, A0, c0, rfl, hm0, hA0⟩ := h0
  replace hA0 : RdI w A0 F0 := hA0
  replace hm0 : F0.length ≤ maxLen := hm0
  obtain ⟨F1, K1⟩ := x1
  obtain ⟨_, rfl, A1, c1, rfl, hm1, hA1⟩ := h1
  replace hA1 : RdI w A1 F1 := hA1
  replace hm1 : F1.length ≤ maxLen := hm1
  have L : Below w.heap.size w ((w.alloc (.cells [.slice A0 F0.length c0, .int .i64 K0].toArray 26)).alloc (.cells [.slice A1 F1.length c1, .int .i64 K1].toArray 26)) := by go_grown
  have Ba : Blk ((w.alloc (.cells [.slice A0 F0.length c0, .int .i64 K0].toArray 26)).alloc (.cells [.slice A1 F1.length c1, .int .i64 K1].toArray 26)) w.heap.size [.slice A0 F0.length c0, .int .i64 K0] 26 := (Blk.new w [.slice A0 F0.length c0, .int .i64 K0] _).alloc _
  have Bb : Blk ((w.alloc (.cells [.slice A0 F0.length c0, .int .i64 K0].toArray 26)).alloc (.cells [.slice A1 F1.length c1, .int .i64 K1].toArray 26)) (w.heap.size + 1) [.slice A1 F1.length c1, .int .i64 K1] 26 := by have := Blk.new (w.alloc (.cells [.slice A0 F0.length c0, .int .i64 K0].toArray 26)) [.slice A1 F1.length c1, .int .i64 K1] 26; rwa [World.size_alloc] at this
  have R0 := Lib.hid (spAb.rd_below (x := ⟨F0, K0⟩) (v := .agg #[.slice A0 F0.length c0, .int .i64 K0]) ⟨_, rfl, A0, c0, rfl, hm0, hA0⟩ L)
  have R1 := Lib.hid (spAb.rd_below (x := ⟨F1, K1⟩) (v := .agg #[.slice A1 F1.length c1, .int .i64 K1]) ⟨_, rfl, A1, c1, rfl, hm1, hA1⟩ L)
  cases hk0 : Ab.ok ⟨F0, K0⟩ with
  | false =>
    have HE := Lib.hid (Ab.hom_bad (x := ⟨F0, K0⟩) (y := ⟨F1, K1⟩) (.inl hk0))
    have HC := Lib.hid (sIsAb_no _ _ _ R0.out hk0)
    clear hk0 hA0 hm0 hA1 hm1
    obtain ⟨bl0, a00, a01⟩ := Ba.c2
    obtain ⟨bl1, a10, a11⟩ := Bb.c2
    go_enter Try.func8, Try.ntmps8
    go_wp2_with (fail)
    refine HC.out.mono ?_; rintro e w1 ⟨rfl, hb⟩
    replace L := bstep L L.size hb
    replace Ba := Ba.below hb
    replace Bb := Bb.below hb
    replace R0 := Lib.hid (spAb.rd_below R0.out hb)
    replace R1 := Lib.hid (spAb.rd_below R1.out hb)
    clear a00 a01 a10 a11 bl0 bl1 HC hb
    obtain ⟨bl0, a00, a01⟩ := Ba.c2
    obtain ⟨bl1, a10, a11⟩ := Bb.c2
    go_wp2_with (fail)
    refine bodyPost_ret (v := .tuple #[.int .i64 0, .int .i64 1]) (by simp [results, Try.results8, go_sem]) rfl ?_
    rw [HE.out.1, HE.out.2]
    exact ⟨rfl, L⟩
  | true =>
    have HC := Lib.hid (sIsAb_yes _ _ _ R0.out hk0)
    cases hk1 : Ab.ok ⟨F1, K1⟩ with
    | false =>
      have HE := Lib.hid (Ab.hom_bad (x := ⟨F0, K0⟩) (y := ⟨F1, K1⟩) (.inr hk1))
      have HC2 : Hid (∀ W, spAb.rd W (.agg #[.slice A1 F1.length c1, .int .i64 K1]) ⟨F1, K1⟩ → Calls Try.prog 26 #[.agg #[.slice A1 F1.length c1, .int .i64 K1]] W (RetB false W)) := Lib.hid fun W hW => sIsAb_no _ _ _ hW hk1
      clear hk0 hk1 hA0 hm0 hA1 hm1
      obtain ⟨bl0, a00, a01⟩ := Ba.c2
      obtain ⟨bl1, a10, a11⟩ := Bb.c2
      go_enter Try.func8, Try.ntmps8
      go_wp2_with (fail)
      refine HC.out.mono ?_; rintro e w1 ⟨rfl, hb⟩
      replace L := bstep L L.size hb
      replace Ba := Ba.below hb
      replace Bb := Bb.below hb
      replace R0 := Lib.hid (spAb.rd_below R0.out hb)
      replace R1 := Lib.hid (spAb.rd_below R1.out hb)
      clear a00 a01 a10 a11 bl0 bl1 HC hb
      obtain ⟨bl0, a00, a01⟩ := Ba.c2
      obtain ⟨bl1, a10, a11⟩ := Bb.c2
      go_wp2_with (fail)
      refine (HC2.out _ R1.out).mono ?_; rintro e w2 ⟨rfl, hb⟩
      replace L := bstep L L.size hb
      replace Ba := Ba.below hb
      replace Bb := Bb.below hb
      replace R0 := Lib.hid (spAb.rd_below R0.out hb)
      replace R1 := Lib.hid (spAb.rd_below R1.out hb)
      clear a00 a01 a10 a11 bl0 bl1 HC2 hb
      obtain ⟨bl0, a00, a01⟩ := Ba.c2
      obtain ⟨bl1, a10, a11⟩ := Bb.c2
      go_wp2_with (fail)
      refine bodyPost_ret (v := .tuple #[.int .i64 0, .int .i64 1]) (by simp [results, Try.results8, go_sem]) rfl ?_
      rw [HE.out.1, HE.out.2]
      exact ⟨rfl, L⟩
    | true =>
      have HC2 : Hid (∀ W, spAb.rd W (.agg #[.slice A1 F1.length c1, .int .i64 K1]) ⟨F1, K1⟩ → Calls Try.prog 26 #[.agg #[.slice A1 F1.length c1, .int .i64 K1]] W (RetB true W)) := Lib.hid fun W hW => sIsAb_yes _ _ _ hW hk1
      by_cases hKK : K1 = 0
      · have HE := Lib.hid (Ab.hom_ok hk0 hk1 hKK)
        subst hKK
        have HX : Hid (∀ j, j < F0.length → 2 ≤ F0.getD j 0 ∧ F0.getD j 0 ≤ 1000000) := Lib.hid fun j hj => (Ab.ok_out hk0).2.2.2.1 j hj
        have HY : Hid (∀ j, j < F1.length → 2 ≤ F1.getD j 0 ∧ F1.getD j 0 ≤ 1000000) := Lib.hid fun j hj => (Ab.ok_out hk1).2.2.2.1 j hj
        have lc : (Num.chainL F0 K0).length ≤ 10 := (Ab.ok_bd hk0).2
        have ly : F1.length ≤ 10 := (Ab.ok_out hk1).1
        have HYM : Hid (∀ t ∈ F1, 1 ≤ t) := Lib.hid (Ab.ok_mem hk1)
        obtain ⟨k, rfl⟩ : ∃ k : Nat, K0 = (k : Int) := ⟨K0.toNat, by have : 0 ≤ K0 := (Ab.ok_out hk0).2.1; omega⟩
        have ecl : (Num.chainL F0 (k : Int)).length = F0.length + k := by rw [Num.chainL_len]; simp
        have HF0 : Hid (∀ W, Below w.heap.size w W → RdI W A0 F0) := Lib.hid fun W hW => hA0.below' hW
        have HF1 : Hid (∀ W, Below w.heap.size w W → RdI W A1 F1) := Lib.hid fun W hW => hA1.below' hW
        have HCP : Hid (∀ W A' c' R, R = Num.homsS (Num.chainL F0 (k : Int)) F1 → RdI W A' R → R.length ≤ 200 → Calls Try.prog 28 #[.slice A' R.length c'] W fun e w' => e = .returned (.tuple #[.int .i64 (Num.cnt (Num.homsI (Num.chainL F0 (k : Int)) F1)), .int .i64 (Num.cntC (Num.homsI (Num.chainL F0 (k : Int)) F1))]) ∧ Below W.heap.size W w') := Lib.hid fun W A' c' R hR hW hl => (sCount_any A' c' R W hW (by unfold maxLen; omega) (fun j hj => Num.at_mem hj (by rw [hR]; exact Num.homsS_pos HYM.out))).mono (by rintro e w' ⟨rfl, hb⟩; rw [hR, (Num.homs_cnt HYM.out).1, (Num.homs_cnt HYM.out).2]; exact ⟨rfl, hb⟩)
        have HNE : Hid (Num.nest (fun t f => (Int.gcd f t : Int)) F1 (Num.chainL F0 (k : Int)) F1.length 0 = Num.homsS (Num.chainL F0 (k : Int)) F1) := Lib.hid Num.nest_end
        have HG1 : Hid (∀ j i, i < F0.length → Num.nest (fun t f => (Int.gcd f t : Int)) F1 (Num.chainL F0 (k : Int)) j (i + 1) = Num.nest (fun t f => (Int.gcd f t : Int)) F1 (Num.chainL F0 (k : Int)) j i ++ [(Int.gcd (F0.getD i 0) (F1.getD j 0) : Int)]) := Lib.hid fun j i hi => by
          rw [Num.nest_in (by omega)]
          congr 3
          unfold Num.chainL
          simp only [List.getD_eq_getElem?_getD]
          rw [List.getElem?_append_left hi]
        have HG3 : Hid (∀ j i, j < F1.length → i < k → Num.nest (fun t f => (Int.gcd f t : Int)) F1 (Num.chainL F0 (k : Int)) j (F0.length + (i + 1)) = Num.nest (fun t f => (Int.gcd f t : Int)) F1 (Num.chainL F0 (k : Int)) j (F0.length + i) ++ [F1.getD j 0]) := Lib.hid fun j i hj hi => by
          rw [← Nat.add_assoc, Num.nest_in (by omega)]
          have e : (Num.chainL F0 (k : Int)).getD (F0.length + i) 0 = 0 := by
            unfold Num.chainL
            simp only [List.getD_eq_getElem?_getD]
            rw [List.getElem?_append_right (by omega), List.getElem?_replicate]
            simp [hi]
          have hy := (HY.out j hj).1
          simp only [e, Int.gcd_zero_left]
          congr 2
          omega
        have HG2 : Hid (∀ j, j < F1.length → Num.nest (fun t f => (Int.gcd f t : Int)) F1 (Num.chainL F0 (k : Int)) (j + 1) 0 = Num.nest (fun t f => (Int.gcd f t : Int)) F1 (Num.chainL F0 (k : Int)) j (F0.length + k)) := Lib.hid fun j hj => by rw [Num.nest_out hj, ecl]
        have HGL : Hid (∀ j i, (Num.nest (fun t f => (Int.gcd f t : Int)) F1 (Num.chainL F0 (k : Int)) j i).length ≤ 200) := Lib.hid fun j i => Num.nest_len ly lc
        have HG0 := Lib.hid (Num.nest_start (fun t f => (Int.gcd f t : Int)) F1 (Num.chainL F0 (k : Int)))
        rw [HE.out.1, HE.out.2]
        clear HE
        dsimp only
        clear hk0 hk1 hA0 hm0 hA1 hm1 HYM
        have lx : F0.length ≤ 10 := by omega
        have lk : k ≤ 10 := by omega
        generalize Num.homsI (Num.chainL F0 (k : Int)) F1 = R at *
        generalize Num.homsS (Num.chainL F0 (k : Int)) F1 = R2 at *
        clear ecl lc
        generalize hNN : Num.nest (fun t f => (Int.gcd f t : Int)) F1 (Num.chainL F0 (k : Int)) = NN at *
        clear hNN
        generalize Num.cnt R = r1 at *
        generalize Num.cntC R = r2 at *
        obtain ⟨bl0, a00, a01⟩ := Ba.c2
        obtain ⟨bl1, a10, a11⟩ := Bb.c2
        go_enter Try.func8, Try.ntmps8
        go_wp2_with (fail)
        refine HC.out.mono ?_; rintro e w1 ⟨rfl, hb⟩
        replace L := bstep L L.size hb
        replace Ba := Ba.below hb
        replace Bb := Bb.below hb
        replace R0 := Lib.hid (spAb.rd_below R0.out hb)
        replace R1 := Lib.hid (spAb.rd_below R1.out hb)
        clear a00 a01 a10 a11 bl0 bl1 HC hb
        obtain ⟨bl0, a00, a01⟩ := Ba.c2
        obtain ⟨bl1, a10, a11⟩ := Bb.c2
        go_wp2_with (fail)
        refine (HC2.out _ R1.out).mono ?_; rintro e w2 ⟨rfl, hb⟩
        replace L := bstep L L.size hb
        replace Ba := Ba.below hb
        replace Bb := Bb.below hb
        replace R0 := Lib.hid (spAb.rd_below R0.out hb)
        replace R1 := Lib.hid (spAb.rd_below R1.out hb)
        clear a00 a01 a10 a11 bl0 bl1 HC2 hb
        obtain ⟨bl0, a00, a01⟩ := Ba.c2
        obtain ⟨bl1, a10, a11⟩ := Bb.c2
        go_wp2_with (fail)
        clear a00 a01 a10 a11 bl0 bl1
        go_loopw [6, 7] (fun s6 s7 wr => ∃ j : Nat, j ≤ F1.length ∧ s7 = .int .i64 j ∧ Hid (OwnI wr w2.heap.size s6 (NN j 0)) ∧ Below w2.heap.size w2 wr) (fun _ s7 _ => F1.length - (intOf s7).toNat)
        case atStart => exact ⟨0, by omega, rfl, Lib.hid (by rw [HG0.out]; exact World.ownsRow_lit _ #[] 0 (Nat.le_refl _) (by unfold maxLen; omega) rfl), (Below.refl _ _).alloc (Nat.le_refl _) _⟩
        case round =>
          obtain ⟨j, hj, rfl, HO, bw⟩ := hrel
          obtain ⟨bl0, a00, a01⟩ := (Ba.below bw).c2
          obtain ⟨bl1, a10, a11⟩ := (Bb.below bw).c2
          by_cases hlt : j < F1.length
          · have j0 : (0 : Int) ≤ (j : Int) := by omega
            have j1 : (j : Int) < (F1.length : Int) := by omega
            have HGJ : Hid (∀ i, i < F0.length → NN j (i + 1) = NN j i ++ [(Int.gcd (F0.getD i 0) (F1.getD j 0) : Int)]) := Lib.hid fun i hi => HG1.out j i hi
            have HGK : Hid (∀ i, i < k → NN j (F0.length + (i + 1)) = NN j (F0.length + i) ++ [F1.getD j 0]) := Lib.hid fun i hi => HG3.out j i hlt hi
            have HGN := Lib.hid (HG2.out j hlt)
            have HGM : Hid (∀ i, (NN j i).length ≤ 200) := Lib.hid fun i => HGL.out j i
            obtain ⟨y0, y1⟩ := HY.out j hlt
            have HC1 : Hid (∀ W, Below w2.heap.size w2 W → ∃ g o, A1 = some ⟨g, o, none⟩ ∧ g < W.heap.size ∧ W.cell? ⟨g, o + j, none⟩ = some (.int .i64 (F1.getD j 0))) := Lib.hid fun W hW => (HF1.out _ (bstep L L.size hW)) j hlt
            generalize F1.getD j 0 = Y at *
            go_wp2_with (fail)
            clear a00 a01 a10 a11 bl0 bl1
            generalize wr = W0 at *
            go_loopw [6, 8] (fun s6 s8 wq => ∃ i : Nat, i ≤ F0.length ∧ s8 = .int .i64 i ∧ Hid (OwnI wq w2.heap.size s6 (NN j i)) ∧ Below w2.heap.size w2 wq) (fun _ s8 _ => F0.length - (intOf s8).toNat)
            case atStart => exact ⟨0, by omega, rfl, HO, bw⟩
            case round =>
              obtain ⟨i, hi', rfl, HO5, bw5⟩ := hrel
              obtain ⟨bl0, a00, a01⟩ := (Ba.below bw5).c2
              obtain ⟨bl1, a10, a11⟩ := (Bb.below bw5).c2
              by_cases hlt5 : i < F0.length
              · obtain ⟨g0, o0, rfl, hg0, hc0⟩ := (HF0.out _ (bstep L L.size bw5)) i hlt5
                obtain ⟨g1, o1, rfl, hg1, hc1⟩ := HC1.out _ bw5
                have i0' : (0 : Int) ≤ (i : Int) := by omega
                have i1 : (i : Int) < (F0.length : Int) := by omega
                obtain ⟨x0, x1⟩ := HX.out i hlt5
                have EC := Lib.hid (HGJ.out i hlt5)
                have xl := HGM.out i
                have HB := Lib.hid HO5.out.base_le
                have bws := bw5.size
                obtain ⟨Ao, co, e6⟩ := HO5.out.form
                generalize F0.getD i 0 = X at *
                generalize NN j i = P at *
                subst e6
                have HGC := Lib.hid (sGcd4_any X Y wr.drew (by omega) (by omega) (by omega) (by omega))
                generalize (Int.gcd X Y : Int) = G at *
                go_wp2_with (fail)
                go_region_law (first | (go_simp; go_at_call 27; refine HGC.out.mono ?_; rintro e w6 ⟨rfl, hb6⟩; have HO6 := Lib.hid (OwnI.below (w := wr.drew) HO5.out hb6); have bw6 : Below w2.heap.size w2 w6 := bstep (bw5.drew) (by have := bw5.size; exact this) hb6; have bws6 := bw6.size) | (refine step_append_lies _ rfl _ _ 24 rfl w2.heap.size 2 i0 (.int .i64 0) 1 8 Try.underlying24 hi hz0 hz1 hz2 rfl (by decide) (.slice Ao P.length co) P.length (P.map (Value.int .i64)) rfl (HO6.out.alloc _) ⟨_, 0, none⟩ 1 1 [.int .i64 G] rfl rfl (cell_one_new _ _ _) (by simp [Value.oneCell']) (by decide) (by unfold maxLen; omega) (by omega) (by simp; omega) _ rfl ?_; intro g7 cap7 w7 own7 gr7 at7 lt7))
                all_goals
                  have OW7 : Hid (OwnI w7 w2.heap.size (.slice (some ⟨g7, 0, none⟩) (P.length + 1) cap7) (NN j (i + 1))) := Lib.hid (by rw [EC.out]; exact OwnI.snoc own7)
                  have bw7 : Below w2.heap.size w2 w7 := (bw6.alloc (by omega) _).grown gr7 (by simp; omega) HB.out
                  clear own7 gr7 at7 lt7 HGC hb6
                  go_wp2_with (fail)
                  exact ⟨⟨i + 1, by omega, by go_num, OW7, bw7⟩, by simp [intOf]; omega⟩
              · obtain rfl : i = F0.length := by omega
                have hge : ¬ ((F0.length : Int) < (F0.length : Int)) := by omega
                go_wp2_with (fail)
                clear a00 a01 a10 a11 bl0 bl1
                generalize wr = W1 at *
                go_loopw [6, 9] (fun s6 s9 wq => ∃ i : Nat, i ≤ k ∧ s9 = .int .i64 i ∧ Hid (OwnI wq w2.heap.size s6 (NN j (F0.length + i))) ∧ Below w2.heap.size w2 wq) (fun _ s9 _ => k - (intOf s9).toNat)
                case atStart => exact ⟨0, by omega, rfl, HO5, bw5⟩
                case round =>
                  obtain ⟨q, hq', rfl, HO8, bw8⟩ := hrel
                  obtain ⟨bl0, a00, a01⟩ := (Ba.below bw8).c2
                  obtain ⟨bl1, a10, a11⟩ := (Bb.below bw8).c2
                  by_cases hlt8 : q < k
                  · obtain ⟨g1, o1, rfl, hg1, hc1⟩ := HC1.out _ bw8
                    have q0 : (0 : Int) ≤ (q : Int) := by omega
                    have q1 : (q : Int) < (k : Int) := by omega
                    have EC := Lib.hid (HGK.out q hlt8)
                    have xl := HGM.out (F0.length + q)
                    have HB := Lib.hid HO8.out.base_le
                    have bws := bw8.size
                    generalize NN j (F0.length + q) = P at *
                    go_wp2_with (first | (at_builtin; refine wpList_append_own_at _ rfl (.tmp 56) (.tmp 62) 24 rfl w2.heap.size 2 i0 (.int .i64 0) 1 8 Try.underlying24 hi hz0 hz1 hz2 rfl (by decide) _ _ _ rfl (HO8.out.alloc _) ⟨_, 0, none⟩ 1 1 [.int .i64 Y] rfl rfl (cell_one_new _ _ _) (by simp [Value.oneCell']) (by unfold maxLen; omega) (by omega) (by simp; omega) ?_; intro v3 w3 own3 gr3 _ at3))
                    exact ⟨⟨q + 1, by omega, by go_num, Lib.hid (by rw [EC.out]; exact OwnI.snoc own3), (bw8.alloc (by omega) _).grown gr3 (by simp; omega) HB.out⟩, by simp [intOf]; omega⟩
                  · obtain rfl : q = k := by omega
                    have hge : ¬ ((q : Int) < (q : Int)) := by omega
                    go_wp2_with (fail)
                    exact ⟨⟨j + 1, by omega, by go_num, Lib.hid (by rw [HGN.out]; exact HO8.out), bw8⟩, by simp [intOf]; omega⟩
          · obtain rfl : j = F1.length := by omega
            have hge : ¬ ((F1.length : Int) < (F1.length : Int)) := by omega
            have LZ := bstep L L.size bw
            have HL9 := Lib.hid (HGL.out F1.length 0)
            rw [HNE.out] at HO HL9
            obtain ⟨A', c', rfl⟩ := HO.out.form
            have HCP2 := Lib.hid (HCP.out wr A' c' R2 rfl HO.out.reads HL9.out)
            clear HCP HO HNE
            go_wp2_with (fail)
            refine HCP2.out.mono ?_; rintro e w8 ⟨rfl, hb8⟩
            have LZ2 := bstep LZ LZ.size hb8
            clear HCP2
            go_wp2_with (fail)
            refine bodyPost_ret (v := .tuple #[.int .i64 r1, .int .i64 r2]) (by simp [results, Try.results8, go_sem]) rfl ?_
            exact ⟨rfl, LZ2⟩
      · have HE := Lib.hid (Ab.hom_inf hk0 hk1 hKK)
        have T1 : 0 < K1 := by have : 0 ≤ K1 := (Ab.ok_out hk1).2.1; omega
        clear hk0 hk1 hA0 hm0 hA1 hm1
        obtain ⟨bl0, a00, a01⟩ := Ba.c2
        obtain ⟨bl1, a10, a11⟩ := Bb.c2
        go_enter Try.func8, Try.ntmps8
        go_wp2_with (fail)
        refine HC.out.mono ?_; rintro e w1 ⟨rfl, hb⟩
        replace L := bstep L L.size hb
        replace Ba := Ba.below hb
        replace Bb := Bb.below hb
        replace R0 := Lib.hid (spAb.rd_below R0.out hb)
        replace R1 := Lib.hid (spAb.rd_below R1.out hb)
        clear a00 a01 a10 a11 bl0 bl1 HC hb
        obtain ⟨bl0, a00, a01⟩ := Ba.c2
        obtain ⟨bl1, a10, a11⟩ := Bb.c2
        go_wp2_with (fail)
        refine (HC2.out _ R1.out).mono ?_; rintro e w2 ⟨rfl, hb⟩
        replace L := bstep L L.size hb
        replace Ba := Ba.below hb
        replace Bb := Bb.below hb
        replace R0 := Lib.hid (spAb.rd_below R0.out hb)
        replace R1 := Lib.hid (spAb.rd_below R1.out hb)
        clear a00 a01 a10 a11 bl0 bl1 HC2 hb
        obtain ⟨bl0, a00, a01⟩ := Ba.c2
        obtain ⟨bl1, a10, a11⟩ := Bb.c2
        go_wp2_with (fail)
        refine bodyPost_ret (v := .tuple #[.int .i64 0, .int .i64 5]) (by simp [results, Try.results8, go_sem]) rfl ?_
        rw [HE.out.1, HE.out.2]
        exact ⟨rfl, L⟩
theorem iCountAbelianHoms_ok (v0 : Value) (x0 : Ab) (v1 : Value) (x1 : Ab) (w : World) (h0 : spAb.rd w v0 x0) (h1 : spAb.rd w v1 x1) (s0 : spAb.sz x0 ≤ 1048576) (s1 : spAb.sz x1 ≤ 1048576) : Calls Try.prog 7 #[v0, v1] w (RetI (rCountAbelianHoms x0 x1) (cCountAbelianHoms x0 x1) w) := iCountAbelianHoms_any v0 v1 x0 x1 w h0 h1
theorem sCountAbelianHoms_ok (v0 : Value) (x0 : Ab) (v1 : Value) (x1 : Ab) (w : World) (h0 : spAb.rd w v0 x0) (h1 : spAb.rd w v1 x1) (s0 : spAb.sz x0 ≤ 1048576) (s1 : spAb.sz x1 ≤ 1048576) : Calls Try.prog 8 #[v0, v1] w (RetI (rCountAbelianHoms x0 x1) (cCountAbelianHoms x0 x1) w) := sCountAbelianHoms_any v0 v1 x0 x1 w h0 h1
end Go.Proofs.Yteplidajodaklaa
