/- The program's minorOf. -/
import Derived.Test.YtihdidbikeaafaaL06B
import Derived.Test.YtihdidbikeaafaaL06C
import Derived.Deep.RegionHeld3
namespace Go.Proofs.Ytihdidbikeaafaa
open Go.RowKit
set_option linter.unusedVariables false
set_option linter.unusedSimpArgs false

theorem Num.detK3 {n : Nat} (h : n ≤ 3) : Num.detK n ≤ 1572864 := by
  rcases n with _ | _ | _ | _ | n
  · decide
  · decide
  · decide
  · decide
  · omega
theorem Num.detL_bd3 {n : Nat} {rows : List (List Int)} (h : n ≤ 3) (hs : Num.Small rows) : -1572864 ≤ Num.detL n rows ∧ Num.detL n rows ≤ 1572864 := by
  have h1 := Num.detK3 h
  have h2 := Num.detL_bd n rows hs
  omega
theorem Num.altS_bd4 {n k : Nat} {rows : List (List Int)} (h : n ≤ 3) (hk : k ≤ 4) (hs : Num.Small rows) : -402653184 ≤ Num.altS (Num.term n rows) k ∧ Num.altS (Num.term n rows) k ≤ 402653184 := by
  have h1 := Num.detK3 h
  have h2 := Num.altS_term_bd (n := n) hs k
  have h0 := Num.detK_pos n
  generalize Num.detK n = K at *
  generalize Num.altS (Num.term n rows) k = s at *
  rcases k with _ | _ | _ | _ | _ | k
  · simp at h2; omega
  · simp at h2; omega
  · simp at h2; omega
  · simp at h2; omega
  · simp at h2; omega
  · omega
theorem Num.sgy_bd {s y : Int} (hs : s = 1 ∨ s = -1) (hy : -64 ≤ y ∧ y ≤ 64) : -64 ≤ s * y ∧ s * y ≤ 64 := by
  rcases hs with rfl | rfl <;> omega
theorem Num.yD_bd {y D : Int} (hy : -64 ≤ y ∧ y ≤ 64) (hD : -1572864 ≤ D ∧ D ≤ 1572864) : -100663296 ≤ y * D ∧ y * D ≤ 100663296 := by
  have := Num.mul_bd (A := 64) (B := 1572864) hy hD
  omega
theorem spI_drop_if {w : World} {g o n c c' : Nat} {x : List Int} {k : Nat} (h : spI.rd w (.slice (some ⟨g, o, none⟩) n c) x) (hk : k ≤ x.length) (hc : n ≤ c) : spI.rd w (.slice (if c = k then some ⟨g, o, none⟩ else some ⟨g, o + k, none⟩) (n - k) c') (x.drop k) := by
  by_cases e : c = k
  · rw [if_pos e]
    obtain ⟨A', c'', e', hm, h3⟩ := h
    simp only [Value.slice.injEq] at e'
    obtain ⟨rfl, rfl, rfl⟩ := e'
    have el : (x.drop k).length = 0 := by simp; omega
    refine ⟨_, _, by rw [show x.length - k = 0 by omega, el], by rw [el]; omega, fun j hj => by omega⟩
  · rw [if_neg e]
    exact spI_drop h hk
theorem spZZ_tail_if {w : World} {g o n c c' : Nat} {x : List (List Int)} (h : spZZ.rd w (.slice (some ⟨g, o, none⟩) n c) x) (hx : 0 < x.length) (hc : n ≤ c) : spZZ.rd w (.slice (if c = 1 then some ⟨g, o, none⟩ else some ⟨g, o + 1, none⟩) (n - 1) c') (x.drop 1) := by
  obtain ⟨A', cap', e, hm, h3⟩ := h
  simp only [Value.slice.injEq] at e
  obtain ⟨rfl, rfl, rfl⟩ := e
  have el : (x.drop 1).length = x.length - 1 := by simp
  by_cases e1 : c = 1
  · rw [if_pos e1]
    exact ⟨_, _, by rw [el], by rw [el]; omega, fun j hj => by omega⟩
  · rw [if_neg e1]
    refine ⟨_, _, by rw [el], by rw [el]; omega, fun j hj => ?_⟩
    rw [el] at hj
    obtain ⟨g', o', u, e2, e3, e4, e5⟩ := h3 (j + 1) (by omega)
    simp only [Option.some.injEq, Addr.mk.injEq, and_true] at e2
    obtain ⟨rfl, rfl⟩ := e2
    refine ⟨g, o + 1, u, rfl, e3, by rw [show o + 1 + j = o + (j + 1) by omega]; exact e4, ?_⟩
    have : (x.drop 1).getD j [] = x.getD (j + 1) [] := by simp [List.getD_eq_getElem?_getD, Nat.add_comm]
    rw [this]; exact e5
theorem Num.getD_drop1 (x : List (List Int)) (i : Nat) : (x.drop 1).getD i [] = x.getD (i + 1) [] := by simp [List.getD_eq_getElem?_getD, Nat.add_comm]
/-- A term's product with its sign, as the program makes it. -/
theorem Num.term_mul (n : Nat) (X : List (List Int)) (c : Nat) (y D : Int) (hy : y = (X.getD 0 []).getD c 0) (hD : D = Num.detL n ((X.drop 1).map (·.eraseIdx c))) : Num.altS (Num.term n X) c + Num.sgA c * y * D = Num.altS (Num.term n X) (c + 1) := by
  subst hy hD
  show _ = Num.altS (Num.term n X) c + Num.sgA c * ((X.getD 0 []).getD c 0 * Num.detL n ((X.drop 1).map (·.eraseIdx c)))
  rw [Int.mul_assoc]
set_option maxRecDepth 100000 in
set_option maxHeartbeats 2000000 in
theorem minorOf_any : ∀ (n : Nat) (v u : Value) (rows : List (List Int)) (cols : List Nat) (w : World), n ≤ 4 → rows.length = n → cols.length = n → Num.Small rows → (∀ i, i < rows.length → ∀ c, c ∈ cols → c < (rows.getD i []).length) → spZZ.rd w v rows → spI.rd w u (Num.ints cols) → CapOk v → CapOk u →
    Calls Try.prog 108 #[v, u] w fun e w' => e = .returned (.int .i64 (Num.detL n (Num.pick rows cols))) ∧ Below w.heap.size w w'
  | 0, v, u, rows, cols, w, _, hr, hc, _, _, rv, ru, _, _ => by
    obtain ⟨A, c, rfl, -, -⟩ := rv
    obtain ⟨B, d, rfl, -, -⟩ := ru
    obtain rfl := List.length_eq_zero_iff.mp hr
    go_enter Try.func108, Try.ntmps108
    go_wp2_with (fail)
    go_ret
    exact ⟨rfl, Below.refl _ _⟩
  | n + 1, v, u, rows, cols, w, hn, hr, hc, hs, hin, rv, ru, hcv, hcu => by
    have rv0 := rv
    obtain ⟨A, c, rfl, hm, -⟩ := rv0
    have ru0 := ru
    obtain ⟨B, d, rfl, hm2, -⟩ := ru0
    obtain ⟨g, o, B0, cB0, rfl, hg, hc0, hm0, hrow⟩ := spZZ_row rv (j := 0) (by omega)
    obtain ⟨gc, oc, rfl, hgc, hcc⟩ := spI_at ru (j := 0) (by rw [Num.ints_length]; omega)
    have hrowlen := hin 0 (by omega)
    have eil : (Num.ints cols).length = n + 1 := by rw [Num.ints_length]; omega
    have HRV := Lib.hid rv
    have HRU := Lib.hid ru
    have HS := Lib.hid hs
    have HIN := Lib.hid hin
    have HROW := Lib.hid hrow
    have HRL := Lib.hid hrowlen
    have HX : Hid (Num.Small (Num.pick rows cols)) := Lib.hid (Num.pick_small hs)
    have hcv' := hcv _ _ _ rfl
    have hcu' := hcu _ _ _ rfl
    have hel := Num.ints_length cols
    obtain ⟨N, hN⟩ : ∃ N, N = n + 1 := ⟨_, rfl⟩
    rw [← hN] at hr hc eil hn
    rw [hr] at hcv'
    rw [eil] at hcu'
    rw [eil, hr]
    rw [Nat.add_zero] at hc0
    have N0 : 0 < N := by omega
    have HN := Lib.hid hN
    have HRL2 := Lib.hid hr
    have HCL := Lib.hid hc
    have HEIL := Lib.hid eil
    have HIH : Hid (∀ (v u : Value) (rows : List (List Int)) (cols : List Nat) (w : World), rows.length = n → cols.length = n → Num.Small rows → (∀ i, i < rows.length → ∀ c, c ∈ cols → c < (rows.getD i []).length) → spZZ.rd w v rows → spI.rd w u (Num.ints cols) → CapOk v → CapOk u →
      Calls Try.prog 108 #[v, u] w fun e w' => e = .returned (.int .i64 (Num.detL n (Num.pick rows cols))) ∧ Below w.heap.size w w') := Lib.hid fun v u rows cols w h1 h2 h3 h4 h5 h6 h7 h8 => minorOf_any n v u rows cols w (by omega) h1 h2 h3 h4 h5 h6 h7 h8
    have HCC : Hid (∀ (v1 v2 : Value) (x y : List Int) (vb : Nat) (w : World), spI.rd w v1 x → spI.rd w v2 y → x.length + y.length ≤ 1000 → w.cell? ⟨vb, 0, none⟩ = some v1 → w.cell? ⟨vb, 1, none⟩ = some v2 →
      Calls Try.prog 118 #[.slice (some ⟨vb, 0, none⟩) 2 2] w fun e w' => ∃ v, e = .returned v ∧ spI.rd w' v (x ++ y) ∧ CapOk v ∧ Below w.heap.size w w') := Lib.hid concatN_any
    rw [hr] at HRV
    rw [eil] at HRU
    have sN : (0 : Int) ≤ (N : Int) := by omega
    have n0 : ((N : Int) == 0) = false := by simp; omega
    clear rv ru hs hin hrow hrowlen hcc hN hr hc eil hel hcv hcu hm hm2
    go_enter Try.func108, Try.ntmps108
    go_wp2_with (fail)
    go_loopw [5, 6, 15] (fun s5 s6 s15 wr => ∃ i : Nat, s15 = .int .i64 i ∧ i ≤ N ∧ s5 = .int .i64 (Num.altS (Num.term n (Num.pick rows cols)) i) ∧ s6 = .int .i64 (Num.sgA i) ∧ Below w.heap.size w wr) (fun _ _ s15 _ => N - (intOf s15).toNat)
    case atStart => exact ⟨0, rfl, by omega, rfl, rfl, Below.refl _ _⟩
    case round =>
      obtain ⟨i, rfl, hi, rfl, rfl, bel⟩ := hrel
      by_cases hlt : i < N
      · obtain ⟨gc', oc', e1, hgc', hcc⟩ := spI_at (spI.rd_below HRU.out bel) (j := i) (by rw [HEIL.out]; exact hlt)
        simp only [Option.some.injEq, Addr.mk.injEq, and_true] at e1
        obtain ⟨rfl, rfl⟩ := e1
        rw [Num.ints_get] at hcc
        have HCI : Hid (cols.getD i 0 ∈ cols) := Lib.hid (Num.mem_getD 0 (by rw [HCL.out]; exact hlt))
        have HTM := Lib.hid (Num.term_mul n (Num.pick rows cols) i)
        have HPG : Hid ((rows.getD 0 []).getD (cols.getD i 0) 0 = ((Num.pick rows cols).getD 0 []).getD i 0) := Lib.hid (Num.pick_get (by rw [HRL2.out]; exact N0) (by rw [HCL.out]; exact hlt)).symm
        have i0 : (0 : Int) ≤ (i : Int) := by omega
        have i1 : (i : Int) < (N : Int) := by omega
        have i2 : (i : Int) + 1 ≤ (N : Int) := by omega
        have i3 : (i : Int) ≤ (N : Int) := by omega
        have i4 : (i : Int) ≤ (d : Int) := by omega
        have i6 : (0 : Int) ≤ (i : Int) + 1 := by omega
        have i7 : ¬ ((i : Int) + 1 < 0) := by omega
        have i8 : (i : Int) + 1 ≤ (d : Int) := by omega
        have wr1 : IntKind.i64.wrap ((i : Int) + 1) = (i : Int) + 1 := IntWalk.i64_in _ (by omega)
        have tn1 : ((i : Int) + 1).toNat = i + 1 := by omega
        have i5 : (N : Int) ≤ (d : Int) := by omega
        have HS5 := Lib.hid (Num.altS_bd4 (n := n) (k := i) (by have := HN.out; omega) (by omega) HX.out)
        have HS6 := Lib.hid (Num.sgA_bd i)
        have HS7 := Lib.hid (Num.sgA_succ i)
        generalize hcol : cols.getD i 0 = col at *
        generalize hsum : Num.altS (Num.term n (Num.pick rows cols)) i = sum at *
        generalize hsg : Num.sgA i = sg at *
        have HCOL := Lib.hid hcol
        have HSUM := Lib.hid hsum
        have HSG := Lib.hid hsg
        clear hcol hsum hsg
        obtain ⟨AD, hAD⟩ : ∃ AD, (if d = i + 1 then some (⟨gc, oc, none⟩ : Addr) else some ⟨gc, oc + (i + 1), none⟩) = AD := ⟨_, rfl⟩
        have HT1 : Hid (∀ W, Below wr.heap.size wr W → spI.rd W (.slice (some ⟨gc, oc, none⟩) i d) ((Num.ints cols).take i)) := Lib.hid fun W hW => spI_take (spI.rd_below (spI.rd_below HRU.out bel) hW) (by rw [HEIL.out]; omega)
        have HT2 : Hid (∀ W, Below wr.heap.size wr W → spI.rd W (.slice (AD) (N - (i + 1)) (d - (i + 1))) ((Num.ints cols).drop (i + 1))) := Lib.hid fun W hW => (by rw [← hAD]; exact spI_drop_if (spI.rd_below (spI.rd_below HRU.out bel) hW) (by rw [HEIL.out]; omega) hcu')
        have HLN : Hid (((Num.ints cols).take i).length + ((Num.ints cols).drop (i + 1)).length ≤ 1000) := Lib.hid (by have := HEIL.out; rw [List.length_take, List.length_drop]; omega)
        go_wp2_with (fail)
        go_region_held3 (fun wx => wx.cell? ⟨gc, oc + i, none⟩ = some (.int .i64 (col : Int))) (first | go_keep | assumption) (first | (go_at_call 118; have BW : Below wr.heap.size wr ((wr.alloc (.cells #[.slice (some ⟨gc, oc, none⟩) i d, .slice (AD) (N - (i + 1)) (d - (i + 1))] 111)).drew) := ((Below.refl _ _).alloc (Nat.le_refl _) _).drew; have BK := (Blk.new wr [.slice (some ⟨gc, oc, none⟩) i d, .slice (AD) (N - (i + 1)) (d - (i + 1))] 111).drew; obtain ⟨bkl, k0, k1⟩ := BK.c2; refine (HCC.out _ _ _ _ _ _ (HT1.out _ BW) (HT2.out _ BW) HLN.out k0 k1).mono ?_; rintro e w2 ⟨uo, rfl, rdo, hco, hbo⟩; have L2 := bstep BW BW.size hbo; have SM : w2.cell? ⟨gc, oc + i, none⟩ = some (.int .i64 (col : Int)) := (by rw [L2.cell hgc']; exact hcc)))
        have HRO := Lib.hid rdo
        rw [Num.ints_erase] at HRO
        have HCO := Lib.hid hco
        have L3 : Below w.heap.size w w2 := bstep bel bel.size L2
        clear HT1 HT2 HLN rdo hco hbo BW BK bkl k0 k1 SM hcc L2
        obtain ⟨gr, or, rfl, hgr, hcr0⟩ := HROW.out col (HRL.out col HCI.out)
        have hcr : w2.cell? ⟨gr, or + col, none⟩ = some (.int .i64 ((rows.getD 0 []).getD col 0)) := by rw [L3.cell hgr]; exact hcr0
        have hcb : w2.cell? ⟨g, o, none⟩ = some (.slice (some ⟨gr, or, none⟩) (rows.getD 0 []).length cB0) := by rw [L3.cell hg]; exact hc0
        have hcl := HRL.out col HCI.out
        have hcl' : (col : Int) < ((rows.getD 0 []).length : Int) := by omega
        have c00 : (0 : Int) ≤ (col : Int) := by omega
        have HYB := Lib.hid (HS.out.get 0 col)
        have HM0 : Hid (∀ v W, Below w2.heap.size w2 W → spZZ.rd W v (rows.drop 1) → CapOk v → Calls Try.prog 108 #[v, uo] W fun e w' => e = .returned (.int .i64 (Num.detL n (Num.pick (rows.drop 1) (cols.eraseIdx i)))) ∧ Below W.heap.size W w') := Lib.hid fun v W hW hv hcv => HIH.out v uo (rows.drop 1) (cols.eraseIdx i) W (by rw [List.length_drop, HRL2.out, HN.out]; rfl) (by rw [List.length_eraseIdx, HCL.out, if_pos hlt, HN.out]; rfl) (fun r hr => HS.out r (List.mem_of_mem_drop hr)) (fun k hk c hc => by rw [Num.getD_drop1]; exact HIN.out (k + 1) (by rw [List.length_drop] at hk; omega) c (List.mem_of_mem_eraseIdx hc)) hv (spI.rd_below HRO.out hW) hcv HCO.out
        have HDB := Lib.hid (Num.detL_bd3 (n := n) (rows := Num.pick (rows.drop 1) (cols.eraseIdx i)) (by have := HN.out; omega) (Num.pick_small (fun r hr => HS.out r (List.mem_of_mem_drop hr))))
        have HDE : Hid (Num.detL n (Num.pick (rows.drop 1) (cols.eraseIdx i)) = Num.detL n (((Num.pick rows cols).drop 1).map (·.eraseIdx i))) := Lib.hid (by rw [Num.pick_minor])
        rw [← HCOL.out] at HPG
        have HVR := Lib.hid (spZZ.rd_below HRV.out L3)
        clear hcr0 HIH HRO HCO
        generalize Num.detL n (Num.pick (rows.drop 1) (cols.eraseIdx i)) = D at *
        rw [HCOL.out] at HPG
        generalize (rows.getD 0 []).getD col 0 = y at *
        generalize (rows.getD 0 []).length = yl at *
        have HP1 := Lib.hid (Num.sgy_bd HS6.out HYB.out)
        have HP2 := Lib.hid (Num.yD_bd HP1.out HDB.out)
        have hp1 := HP1.out
        have hp2 := HP2.out
        have hp3 := HS5.out
        have HE := Lib.hid (HTM.out y D HPG.out HDE.out)
        have wr1' : IntKind.i64.wrap (sg * y) = sg * y := IntWalk.i64_in _ (by omega)
        have wr2 : IntKind.i64.wrap (sg * y * D) = sg * y * D := IntWalk.i64_in _ (by omega)
        have wr3 : IntKind.i64.wrap (sum + sg * y * D) = sum + sg * y * D := IntWalk.i64_in _ (by omega)
        have wr4 : IntKind.i64.wrap (-sg) = -sg := IntWalk.i64_in _ (by rcases HS6.out with e | e <;> rw [e] <;> decide)
        have d0 : (0 : Int) ≤ 1 := by omega
        have d1 : (1 : Int) ≤ (N : Int) := by omega
        have d2 : (N : Int) ≤ (c : Int) := by omega
        have d3 : (0 : Int) < (N : Int) := by omega
        clear hp1 hp2 hp3 HTM HPG HDE HS5 HYB HP1 HP2
        obtain ⟨AC, hAC⟩ : ∃ AC, (if c = 1 then some (⟨g, o, none⟩ : Addr) else some ⟨g, o + 1, none⟩) = AC := ⟨_, rfl⟩
        clear hAD
        have HMM : Hid (∀ W, Below w2.heap.size w2 W → Calls Try.prog 108 #[.slice (AC) (N - 1) (c - 1), uo] W fun e w' => e = .returned (.int .i64 D) ∧ Below W.heap.size W w') := Lib.hid fun W hW => HM0.out _ W hW ((by rw [← hAC]; exact spZZ_tail_if (spZZ.rd_below HVR.out hW) (by rw [HRL2.out]; exact N0) hcv')) (fun A m c' e => by simp only [Value.slice.injEq] at e; omega)
        clear HM0
        go_wp2_with (fail)
        go_region_held3 (fun wx => wx.cell? ⟨g, o, none⟩ = some (.slice (some ⟨gr, or, none⟩) yl cB0) ∧ wx.cell? ⟨gr, or + col, none⟩ = some (.int .i64 y)) (first | go_keep | assumption) (first | (go_at_call 108; refine (HMM.out _ ((Below.refl _ _).drew)).mono ?_; rintro e w4 ⟨rfl, hb4⟩; have L4 := bstep ((Below.refl w2.heap.size w2).drew) ((Below.refl w2.heap.size w2).drew).size hb4; have SM4 : w4.cell? ⟨g, o, none⟩ = some (.slice (some ⟨gr, or, none⟩) yl cB0) ∧ w4.cell? ⟨gr, or + col, none⟩ = some (.int .i64 y) := ⟨(by rw [L4.cell (Nat.lt_of_lt_of_le hg L3.size)]; exact hcb), (by rw [L4.cell (Nat.lt_of_lt_of_le hgr L3.size)]; exact hcr)⟩))
        all_goals
          have L5 := bstep L3 L3.size L4
          go_wp2_with (fail)
          exact ⟨⟨i + 1, by go_num, by omega, by rw [← HE.out], by rw [HS7.out], L5⟩, by simp [intOf]; omega⟩
      · obtain rfl : i = N := by omega
        have hge : ¬ ((i : Int) < (i : Int)) := by omega
        have HE : Hid (Num.detL (n + 1) (Num.pick rows cols) = Num.altS (Num.term n (Num.pick rows cols)) i) := Lib.hid (by rw [HN.out]; rfl)
        generalize Num.altS (Num.term n (Num.pick rows cols)) i = sum at *
        go_wp2_with (fail)
        go_ret
        exact ⟨ret_i HE.out.symm, bel⟩
end Go.Proofs.Ytihdidbikeaafaa
