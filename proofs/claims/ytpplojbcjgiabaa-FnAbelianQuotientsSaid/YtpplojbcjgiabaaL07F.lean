/- HasAbelianQuotient of the program. -/
import Derived.Test.YtpplojbcjgiabaaL07C
import Derived.Test.YtpplojbcjgiabaaL07E
import Derived.Deep.RegionHeld3
namespace Go.Proofs.Ytpplojbcjgiabaa
open Go.RowKit
set_option linter.unusedVariables false
set_option linter.unusedSimpArgs false

set_option maxRecDepth 100000 in
set_option maxHeartbeats 1000000 in
theorem sDown_any (v : Value) (x : Ab) (w : World) (h : spAb.rd w v x) (hk : x.ok = true) :
    Calls Try.prog 50 #[v] w fun e w' => ∃ v, e = .returned v ∧ spI.rd w' v (Num.chainL x.F x.K).reverse ∧ Below w.heap.size w w' := by
  obtain ⟨i0, hi, hz0, hz1, hz2⟩ := info_parts infoI
  obtain ⟨h1, h2, h3, -, -⟩ := Num.abB_out hk
  obtain ⟨F, K⟩ := x
  obtain ⟨_, rfl, A, c, rfl, hm, hA0⟩ := h
  replace hA0 : RdI w A F := hA0
  replace h1 : F.length ≤ 10 := h1
  replace h2 : 0 ≤ K := h2
  replace h3 : K ≤ 10 - (F.length : Int) := h3
  obtain ⟨k, rfl⟩ : ∃ k : Nat, K = (k : Int) := ⟨K.toNat, by omega⟩
  have hk10 : k ≤ 10 := by omega
  have b0 : Below w.heap.size w (w.alloc (.cells [.slice A F.length c, .int .i64 (k : Int)].toArray 40)) := by go_grown
  have B0 := Blk.new w [.slice A F.length c, .int .i64 (k : Int)] 40
  have HF : Hid (∀ W, Below w.heap.size w W → RdI W A F) := Lib.hid fun W hW => hA0.below' hW
  have HT0 : Hid (∀ j, j < F.length → (List.replicate k (0 : Int) ++ F.reverse.take (j + 1)) = (List.replicate k (0 : Int) ++ F.reverse.take j) ++ [F.getD (F.length - 1 - j) 0]) := Lib.hid fun j hj => by
    rw [List.take_succ_eq_append_getElem (by simpa using hj), ← List.append_assoc]
    congr 2
    simp [List.getElem_reverse]
    rw [List.getElem?_eq_getElem (by omega)]
    rfl
  have HE : Hid (List.replicate k (0 : Int) ++ F.reverse.take F.length = (Num.chainL F (k : Int)).reverse) := Lib.hid (by
    unfold Num.chainL
    rw [List.reverse_append, List.reverse_replicate, List.take_of_length_le (by simp)]
    simp)
  have HL : Hid (∀ j, (List.replicate k (0 : Int) ++ F.reverse.take j).length ≤ 100) := Lib.hid fun j => by
    simp only [List.length_append, List.length_replicate, List.length_take, List.length_reverse]
    omega
  clear hA0 hm hk
  go_enter Try.func50, Try.ntmps50
  go_wp2_with (refine wpList_make_full _ rfl (.tmp 6) (.tmp 6) 24 rfl (w.heap.size + 1) 2 i0 (.int .i64 0) 1 Try.underlying24 hi hz0 hz1 .i64 .i64 (k : Int) (k : Int) k rfl rfl rfl rfl (by rw [hz2]; omega) (by unfold maxLen; omega) (by simp) ?_; intro w1 own1 gr1; rw [World.size_alloc] at own1; have b1 : Below (w.alloc (.cells [.slice A F.length c, .int .i64 (k : Int)].toArray 40)).heap.size (w.alloc (.cells [.slice A F.length c, .int .i64 (k : Int)].toArray 40)) w1 := (Below.refl _ _).grown gr1 (Nat.le_refl _) (fun k hk => by simp at hk); have B1 := B0.below b1; have L1 := bstep b0 b0.size b1; obtain ⟨bl, a0, a1⟩ := B1.c2; clear gr1 b1 B0)
  go_loopw [3, 4] (fun s3 s4 wr => ∃ j : Nat, s4 = .int .i64 ((F.length : Int) - 1 - (j : Int)) ∧ j ≤ F.length ∧ Hid (OwnI wr (w.heap.size + 1) s3 (List.replicate k (0 : Int) ++ F.reverse.take j)) ∧ Blk wr w.heap.size [.slice A F.length c, .int .i64 (k : Int)] 40 ∧ Below w.heap.size w wr) (fun _ s4 _ => (intOf s4 + 1).toNat)
  case atStart => exact ⟨0, by simp, by omega, Lib.hid (by
    unfold OwnI
    simp only [List.take_zero, List.append_nil, List.length_replicate]
    have e := zeros_ints k
    rw [← e]
    exact own1), B1, L1⟩
  case round =>
    obtain ⟨j, rfl, hj, HO, BX, bw⟩ := hrel
    clear own1 bl a0 a1 B1 L1
    have bws := bw.size
    have HB := Lib.hid HO.out.base_le
    obtain ⟨bl, a0, a1⟩ := BX.c2
    by_cases hlt : j < F.length
    · obtain ⟨g, o, rfl, hg, hc⟩ := (HF.out _ bw) (F.length - 1 - j) (by omega)
      have j0 : (0 : Int) ≤ (F.length : Int) - 1 - (j : Int) := by omega
      have j1 : (F.length : Int) - 1 - (j : Int) < (F.length : Int) := by omega
      have j2 : ((F.length : Int) - 1 - (j : Int)).toNat = F.length - 1 - j := by omega
      have EC := Lib.hid (HT0.out j hlt)
      have xl := HL.out j
      have bxl := BX.lt
      generalize F.getD (F.length - 1 - j) 0 = x at *
      generalize List.replicate k (0 : Int) ++ F.reverse.take j = X at *
      go_wp2_with (first | (at_builtin; refine wpList_append_own_at _ rfl (.tmp 16) (.tmp 22) 24 rfl (w.heap.size + 1) 2 i0 (.int .i64 0) 1 8 Try.underlying24 hi hz0 hz1 hz2 rfl (by decide) _ _ _ rfl (HO.out.alloc _) ⟨_, 0, none⟩ 1 1 [.int .i64 x] rfl rfl (cell_one_new _ _ _) (by simp [Value.oneCell']) (by unfold maxLen; omega) (by omega) (by simp; omega) ?_; intro v3 w3 own3 gr3 _ at3))
      exact ⟨⟨j + 1, by go_num, by omega, Lib.hid (by rw [EC.out]; exact OwnI.snoc own3), (BX.alloc _).chg (ChgS.of_grown gr3 (S := fun k => w.heap.size + 1 ≤ k) HB.out) (by omega), (bw.alloc (by omega) _).grown gr3 (by simp; omega) (fun k hk => by have := HB.out k hk; omega)⟩, by simp [intOf]; omega⟩
    · obtain rfl : j = F.length := by omega
      have hge : ¬ ((0 : Int) ≤ (F.length : Int) - 1 - (F.length : Int)) := by omega
      have HR := Lib.hid ((by rw [← HE.out]; obtain ⟨A', c', e⟩ := HO.out.form; rw [e]; have ho := HO.out; rw [e] at ho; exact ⟨A', c', rfl, by have := HL.out F.length; unfold maxLen; omega, ho.reads⟩ : spI.rd wr u3 (Num.chainL F (k : Int)).reverse))
      clear HO HE HT0 HL HB
      go_wp2_with (fail)
      go_ret
      exact ⟨_, rfl, HR.out, bw⟩
theorem Ab.ok_bd {x : Ab} (h : x.ok = true) : (∀ j, 0 ≤ (Num.chainL x.F x.K).getD j 0 ∧ (Num.chainL x.F x.K).getD j 0 ≤ 1000000) ∧ (Num.chainL x.F x.K).length ≤ 10 := by
  obtain ⟨h1, h2, h3, h4, -⟩ := Ab.ok_out h
  exact ⟨Num.chainL_bd fun j hj => by obtain ⟨a, b⟩ := h4 j hj; omega, by rw [Num.chainL_len]; omega⟩
theorem Ab.ok_rbd {x : Ab} (h : x.ok = true) : (∀ j, 0 ≤ (Num.chainL x.F x.K).reverse.getD j 0 ∧ (Num.chainL x.F x.K).reverse.getD j 0 ≤ 1000000) ∧ (Num.chainL x.F x.K).reverse.length ≤ 10 := by
  obtain ⟨h1, h2⟩ := Ab.ok_bd h
  refine ⟨fun j => ?_, by simpa using h2⟩
  by_cases hj : j < (Num.chainL x.F x.K).length
  · rw [Num.getD_rev hj]; exact h1 _
  · rw [List.getD_eq_getElem?_getD, List.getElem?_eq_none (by simp; omega)]; simp
def rHasAbelianQuotient (x y : Ab) : Bool := x.ok && y.ok && Num.covD (Num.chainL x.F x.K).reverse (Num.chainL y.F y.K).reverse
def cHasAbelianQuotient (x y : Ab) : Int := if x.ok = true ∧ y.ok = true then 0 else 1
theorem Ab.quo_bad {x y : Ab} (h : x.ok = false ∨ y.ok = false) : rHasAbelianQuotient x y = false ∧ cHasAbelianQuotient x y = 1 := by
  unfold rHasAbelianQuotient cHasAbelianQuotient
  rcases h with h | h <;> simp [h]
theorem Ab.quo_ok {x y : Ab} (h : x.ok = true) (h' : y.ok = true) : rHasAbelianQuotient x y = Num.covD (Num.chainL x.F x.K).reverse (Num.chainL y.F y.K).reverse ∧ cHasAbelianQuotient x y = 0 := by
  unfold rHasAbelianQuotient cHasAbelianQuotient
  simp [h, h']
set_option maxRecDepth 100000 in
set_option maxHeartbeats 2000000 in
theorem iHasAbelianQuotient_any (v0 v1 : Value) (x0 x1 : Ab) (w : World) (h0 : spAb.rd w v0 x0) (h1 : spAb.rd w v1 x1) : Calls Try.prog 19 #[v0, v1] w (RetBC (rHasAbelianQuotient x0 x1) (cHasAbelianQuotient x0 x1) w) := by
  obtain ⟨F0, K0⟩ := x0
  obtain ⟨_, rfl, A0, c0, rfl, hm0, hA0⟩ := h0
  replace hA0 : RdI w A0 F0 := hA0
  replace hm0 : F0.length ≤ maxLen := hm0
  obtain ⟨F1, K1⟩ := x1
  obtain ⟨_, rfl, A1, c1, rfl, hm1, hA1⟩ := h1
  replace hA1 : RdI w A1 F1 := hA1
  replace hm1 : F1.length ≤ maxLen := hm1
  have L : Below w.heap.size w ((w.alloc (.cells [.slice A0 F0.length c0, .int .i64 K0].toArray 40)).alloc (.cells [.slice A1 F1.length c1, .int .i64 K1].toArray 40)) := by go_grown
  have Ba : Blk ((w.alloc (.cells [.slice A0 F0.length c0, .int .i64 K0].toArray 40)).alloc (.cells [.slice A1 F1.length c1, .int .i64 K1].toArray 40)) w.heap.size [.slice A0 F0.length c0, .int .i64 K0] 40 := (Blk.new w [.slice A0 F0.length c0, .int .i64 K0] _).alloc _
  have Bb : Blk ((w.alloc (.cells [.slice A0 F0.length c0, .int .i64 K0].toArray 40)).alloc (.cells [.slice A1 F1.length c1, .int .i64 K1].toArray 40)) (w.heap.size + 1) [.slice A1 F1.length c1, .int .i64 K1] 40 := by have := Blk.new (w.alloc (.cells [.slice A0 F0.length c0, .int .i64 K0].toArray 40)) [.slice A1 F1.length c1, .int .i64 K1] 40; rwa [World.size_alloc] at this
  have R0 := Lib.hid (spAb.rd_below (x := ⟨F0, K0⟩) (v := .agg #[.slice A0 F0.length c0, .int .i64 K0]) ⟨_, rfl, A0, c0, rfl, hm0, hA0⟩ L)
  have R1 := Lib.hid (spAb.rd_below (x := ⟨F1, K1⟩) (v := .agg #[.slice A1 F1.length c1, .int .i64 K1]) ⟨_, rfl, A1, c1, rfl, hm1, hA1⟩ L)
  cases hk0 : Ab.ok ⟨F0, K0⟩ with
  | false =>
    have HE := Lib.hid (Ab.quo_bad (x := ⟨F0, K0⟩) (y := ⟨F1, K1⟩) (.inl hk0))
    have HC := Lib.hid (isAb_no _ _ _ R0.out hk0)
    clear hk0 hA0 hm0 hA1 hm1
    obtain ⟨bl0, a00, a01⟩ := Ba.c2
    obtain ⟨bl1, a10, a11⟩ := Bb.c2
    go_enter Try.func19, Try.ntmps19
    go_wp2_with (fail)
    refine HC.out.mono ?_; rintro e w1 ⟨rfl, hb⟩
    replace L := bstep L L.size hb
    replace Ba := Ba.below hb
    replace Bb := Bb.below hb
    replace R0 := Lib.hid (spAb.rd_below R0.out hb)
    replace R1 := Lib.hid (spAb.rd_below R1.out hb)
    clear a00 a01 a10 a11 bl0 bl1 HC hb
    obtain ⟨bl0, a00, a01⟩ := Ba.c2
    obtain ⟨bl1, a10, a11⟩ := Bb.c2
    go_wp2_with (fail)
    refine bodyPost_ret (v := .tuple #[.bool false, .int .i64 1]) (by simp [results, Try.results19, go_sem]) rfl ?_
    rw [HE.out.1, HE.out.2]
    exact ⟨rfl, L⟩
  | true =>
    have HC := Lib.hid (isAb_yes _ _ _ R0.out hk0)
    cases hk1 : Ab.ok ⟨F1, K1⟩ with
    | false =>
      have HE := Lib.hid (Ab.quo_bad (x := ⟨F0, K0⟩) (y := ⟨F1, K1⟩) (.inr hk1))
      have HC2 : Hid (∀ W, spAb.rd W (.agg #[.slice A1 F1.length c1, .int .i64 K1]) ⟨F1, K1⟩ → Calls Try.prog 46 #[.agg #[.slice A1 F1.length c1, .int .i64 K1]] W (RetB false W)) := Lib.hid fun W hW => isAb_no _ _ _ hW hk1
      clear hk0 hk1 hA0 hm0 hA1 hm1
      obtain ⟨bl0, a00, a01⟩ := Ba.c2
      obtain ⟨bl1, a10, a11⟩ := Bb.c2
      go_enter Try.func19, Try.ntmps19
      go_wp2_with (fail)
      refine HC.out.mono ?_; rintro e w1 ⟨rfl, hb⟩
      replace L := bstep L L.size hb
      replace Ba := Ba.below hb
      replace Bb := Bb.below hb
      replace R0 := Lib.hid (spAb.rd_below R0.out hb)
      replace R1 := Lib.hid (spAb.rd_below R1.out hb)
      clear a00 a01 a10 a11 bl0 bl1 HC hb
      obtain ⟨bl0, a00, a01⟩ := Ba.c2
      obtain ⟨bl1, a10, a11⟩ := Bb.c2
      go_wp2_with (fail)
      refine (HC2.out _ R1.out).mono ?_; rintro e w2 ⟨rfl, hb⟩
      replace L := bstep L L.size hb
      replace Ba := Ba.below hb
      replace Bb := Bb.below hb
      replace R0 := Lib.hid (spAb.rd_below R0.out hb)
      replace R1 := Lib.hid (spAb.rd_below R1.out hb)
      clear a00 a01 a10 a11 bl0 bl1 HC2 hb
      obtain ⟨bl0, a00, a01⟩ := Ba.c2
      obtain ⟨bl1, a10, a11⟩ := Bb.c2
      go_wp2_with (fail)
      refine bodyPost_ret (v := .tuple #[.bool false, .int .i64 1]) (by simp [results, Try.results19, go_sem]) rfl ?_
      rw [HE.out.1, HE.out.2]
      exact ⟨rfl, L⟩
    | true =>
      have HC2 : Hid (∀ W, spAb.rd W (.agg #[.slice A1 F1.length c1, .int .i64 K1]) ⟨F1, K1⟩ → Calls Try.prog 46 #[.agg #[.slice A1 F1.length c1, .int .i64 K1]] W (RetB true W)) := Lib.hid fun W hW => isAb_yes _ _ _ hW hk1
      have HE := Lib.hid (Ab.quo_ok hk0 hk1)
      have H0 : Hid (∀ W, spAb.rd W (.agg #[.slice A0 F0.length c0, .int .i64 K0]) ⟨F0, K0⟩ → Calls Try.prog 47 #[.agg #[.slice A0 F0.length c0, .int .i64 K0]] W fun e w' => ∃ v, e = .returned v ∧ spI.rd w' v (Num.chainL F0 K0) ∧ Below W.heap.size W w') := Lib.hid fun W hW => chainFor_any _ ⟨F0, K0⟩ W hW hk0
      have H1 : Hid (∀ W, spAb.rd W (.agg #[.slice A1 F1.length c1, .int .i64 K1]) ⟨F1, K1⟩ → Calls Try.prog 47 #[.agg #[.slice A1 F1.length c1, .int .i64 K1]] W fun e w' => ∃ v, e = .returned v ∧ spI.rd w' v (Num.chainL F1 K1) ∧ Below W.heap.size W w') := Lib.hid fun W hW => chainFor_any _ ⟨F1, K1⟩ W hW hk1
      have H2 : Hid (∀ W v u, spI.rd W v (Num.chainL F0 K0) → spI.rd W u (Num.chainL F1 K1) → Calls Try.prog 48 #[v, u] W fun e w' => e = .returned (.bool (Num.covD (Num.chainL F0 K0).reverse (Num.chainL F1 K1).reverse)) ∧ Below W.heap.size W w') := Lib.hid fun W v u hv hu => covers_any v u _ _ W hv hu (Ab.ok_bd hk0).1 (Ab.ok_bd hk1).1 (by have := (Ab.ok_bd hk0).2; dsimp only at this; omega) (by have := (Ab.ok_bd hk1).2; dsimp only at this; omega)
      clear hk0 hk1 hA0 hm0 hA1 hm1
      rw [HE.out.1, HE.out.2]
      clear HE
      dsimp only
      generalize Num.covD (Num.chainL F0 K0).reverse (Num.chainL F1 K1).reverse = r at *
      generalize (Num.chainL F0 K0) = x at *
      generalize (Num.chainL F1 K1) = y at *
      obtain ⟨bl0, a00, a01⟩ := Ba.c2
      obtain ⟨bl1, a10, a11⟩ := Bb.c2
      go_enter Try.func19, Try.ntmps19
      go_wp2_with (fail)
      refine HC.out.mono ?_; rintro e w1 ⟨rfl, hb⟩
      replace L := bstep L L.size hb
      replace Ba := Ba.below hb
      replace Bb := Bb.below hb
      replace R0 := Lib.hid (spAb.rd_below R0.out hb)
      replace R1 := Lib.hid (spAb.rd_below R1.out hb)
      clear a00 a01 a10 a11 bl0 bl1 HC hb
      obtain ⟨bl0, a00, a01⟩ := Ba.c2
      obtain ⟨bl1, a10, a11⟩ := Bb.c2
      go_wp2_with (fail)
      refine (HC2.out _ R1.out).mono ?_; rintro e w2 ⟨rfl, hb⟩
      replace L := bstep L L.size hb
      replace Ba := Ba.below hb
      replace Bb := Bb.below hb
      replace R0 := Lib.hid (spAb.rd_below R0.out hb)
      replace R1 := Lib.hid (spAb.rd_below R1.out hb)
      clear a00 a01 a10 a11 bl0 bl1 HC2 hb
      obtain ⟨bl0, a00, a01⟩ := Ba.c2
      obtain ⟨bl1, a10, a11⟩ := Bb.c2
      have LC0 : Below w2.heap.size w2 w2.drew := (Below.refl _ _).drew
      go_wp2_with (fail)
      go_region_held3 (fun wx => wx.cell? ⟨w.heap.size, 0, none⟩ = some (.slice A0 F0.length c0) ∧ wx.cell? ⟨w.heap.size, 1, none⟩ = some (.int .i64 K0) ∧ wx.cell? ⟨w.heap.size + 1, 0, none⟩ = some (.slice A1 F1.length c1) ∧ wx.cell? ⟨w.heap.size + 1, 1, none⟩ = some (.int .i64 K1)) (first | assumption | go_keep) (first
        | (go_at_call 47; (with_reducible refine (H0.out _ (spAb.rd_below R0.out LC0)).mono ?_); rintro e w3 ⟨u3, rfl, hr3, hb3⟩; have LC1 := bstep LC0 LC0.size hb3; obtain ⟨B3, d3, rfl, hl3, hq3⟩ := hr3; have SM3 : w3.cell? ⟨w.heap.size, 0, none⟩ = some (.slice A0 F0.length c0) ∧ w3.cell? ⟨w.heap.size, 1, none⟩ = some (.int .i64 K0) ∧ w3.cell? ⟨w.heap.size + 1, 0, none⟩ = some (.slice A1 F1.length c1) ∧ w3.cell? ⟨w.heap.size + 1, 1, none⟩ = some (.int .i64 K1) := ⟨(Blk.cell (Ba.below LC1) 0 (by simp)), (Blk.cell (Ba.below LC1) 1 (by simp)), (Blk.cell (Bb.below LC1) 0 (by simp)), (Blk.cell (Bb.below LC1) 1 (by simp))⟩)
        | (go_at_call 47; (with_reducible refine (H1.out _ (spAb.rd_below R1.out LC1)).mono ?_); rintro e w4 ⟨u4, rfl, hr4, hb4⟩; have LC2 := bstep LC1 LC1.size hb4; obtain ⟨B4, d4, rfl, hl4, hq4⟩ := hr4; have SM4 : w4.cell? ⟨w.heap.size, 0, none⟩ = some (.slice A0 F0.length c0) ∧ w4.cell? ⟨w.heap.size, 1, none⟩ = some (.int .i64 K0) ∧ w4.cell? ⟨w.heap.size + 1, 0, none⟩ = some (.slice A1 F1.length c1) ∧ w4.cell? ⟨w.heap.size + 1, 1, none⟩ = some (.int .i64 K1) := ⟨(Blk.cell (Ba.below LC2) 0 (by simp)), (Blk.cell (Ba.below LC2) 1 (by simp)), (Blk.cell (Bb.below LC2) 0 (by simp)), (Blk.cell (Bb.below LC2) 1 (by simp))⟩)
        | (go_at_call 48; refine (H2.out _ _ _ (spI.rd_below ⟨B3, d3, rfl, hl3, hq3⟩ hb4) ⟨B4, d4, rfl, hl4, hq4⟩).mono ?_; rintro e w5 ⟨rfl, hb5⟩; have LC3 := bstep LC2 LC2.size hb5; have SM5 : w5.cell? ⟨w.heap.size, 0, none⟩ = some (.slice A0 F0.length c0) ∧ w5.cell? ⟨w.heap.size, 1, none⟩ = some (.int .i64 K0) ∧ w5.cell? ⟨w.heap.size + 1, 0, none⟩ = some (.slice A1 F1.length c1) ∧ w5.cell? ⟨w.heap.size + 1, 1, none⟩ = some (.int .i64 K1) := ⟨(Blk.cell (Ba.below LC3) 0 (by simp)), (Blk.cell (Ba.below LC3) 1 (by simp)), (Blk.cell (Bb.below LC3) 0 (by simp)), (Blk.cell (Bb.below LC3) 1 (by simp))⟩))
      all_goals
        have LZ := bstep L L.size LC3
        clear SM3 SM4 SM5 a00 a01 a10 a11 bl0 bl1
        go_wp2_with (fail)
        refine bodyPost_ret (v := .tuple #[.bool r, .int .i64 0]) (by simp [results, Try.results19, go_sem]) rfl ?_
        exact ⟨rfl, LZ⟩
end Go.Proofs.Ytpplojbcjgiabaa
