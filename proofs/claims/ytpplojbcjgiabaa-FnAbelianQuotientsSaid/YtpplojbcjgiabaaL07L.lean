/- Primary parts of the model: the order of prime powers, insertion in place, trial division of each factor. -/
import Derived.Test.YtpplojbcjgiabaaL07J
import Derived.Test.YtpplojbcjgiabaaNumLb
import Derived.Test.YtpplojbcjgiabaaNumO
import Derived.Test.YtpplojbcjgiabaaKB
namespace Go.Proofs.Ytpplojbcjgiabaa
open Go.RowKit
set_option linter.unusedVariables false
set_option linter.unusedSimpArgs false

theorem ownsRow_raise {w : World} {b b' : Nat} {e : TypeId} {size n : Nat} {v : Value} {xs : List Value} (h : w.ownsRow b e size v n xs) (hb : ∀ k, v.ownBlock = some k → b' ≤ k) : w.ownsRow b' e size v n xs := by
  obtain ⟨h1, h2⟩ := h
  rcases h2 with h2 | ⟨g, c, cur, hv, _, h3⟩
  · exact ⟨h1, .inl h2⟩
  · exact ⟨h1, .inr ⟨g, c, cur, hv, hb g (by rw [hv]; rfl), h3⟩⟩
/-- A copy in new memory. -/
theorem sOwnI_any (v : Value) (xs : List Int) (w : World) (h : spI.rd w v xs) (hl : xs.length ≤ 1048576) : Calls Try.prog 45 #[v] w fun e w' => ∃ u, e = .returned u ∧ OwnI w' w.heap.size u xs ∧ Below w.heap.size w w' := by
  refine (sOwn_any v xs w h hl).mono ?_
  rintro e w' ⟨u, S, rfl, ow, hS, hb⟩
  exact ⟨u, rfl, ownsRow_raise ow.1 (fun k hk => hS k (ow.2.1 k hk)), hb⟩
theorem sBefore_any (a b : Int) (w : World) (ha : a ≤ 1000000) (hb : b ≤ 1000000) : Calls Try.prog 77 #[.int .i64 a, .int .i64 b] w fun e w' => e = .returned (.bool (decide (Num.befP a b))) ∧ w = w' := by
  have HA := Lib.hid (sBase_any a w ha)
  have HB := Lib.hid (sBase_any b w hb)
  have HP : Hid (decide (Num.befP a b) = decide (Num.baseN a < Num.baseN b ∨ Num.baseN a = Num.baseN b ∧ a < b)) := Lib.hid rfl
  rw [HP.out]
  clear HP
  generalize Num.baseN a = p at *
  generalize Num.baseN b = q at *
  by_cases h1 : p < q
  · have E : Hid (decide (p < q ∨ p = q ∧ a < b) = true) := Lib.hid (decide_eq_true (.inl h1))
    rw [E.out]
    go_enter Try.func77, Try.ntmps77
    go_wp2_with (first | (go_at_call 71; (with_reducible refine HA.out.mono ?_); rintro e w1 ⟨rfl, rfl⟩) | (go_at_call 71; (with_reducible refine HB.out.mono ?_); rintro e w1 ⟨rfl, rfl⟩))
    go_ret
    exact ⟨rfl, rfl⟩
  · by_cases h2 : p = q
    · have T1 : (p == q) = true := by simpa using h2
      by_cases h3 : a < b
      · have E : Hid (decide (p < q ∨ p = q ∧ a < b) = true) := Lib.hid (decide_eq_true (.inr ⟨h2, h3⟩))
        rw [E.out]
        clear h2
        go_enter Try.func77, Try.ntmps77
        go_wp2_with (first | (go_at_call 71; (with_reducible refine HA.out.mono ?_); rintro e w1 ⟨rfl, rfl⟩) | (go_at_call 71; (with_reducible refine HB.out.mono ?_); rintro e w1 ⟨rfl, rfl⟩))
        go_ret
        exact ⟨rfl, rfl⟩
      · have E : Hid (decide (p < q ∨ p = q ∧ a < b) = false) := Lib.hid (decide_eq_false (by omega))
        rw [E.out]
        clear h2
        go_enter Try.func77, Try.ntmps77
        go_wp2_with (first | (go_at_call 71; (with_reducible refine HA.out.mono ?_); rintro e w1 ⟨rfl, rfl⟩) | (go_at_call 71; (with_reducible refine HB.out.mono ?_); rintro e w1 ⟨rfl, rfl⟩))
        go_ret
        exact ⟨ret_b (by simp; omega), rfl⟩
    · have T1 : (p == q) = false := by simpa using h2
      have E : Hid (decide (p < q ∨ p = q ∧ a < b) = false) := Lib.hid (decide_eq_false (by omega))
      rw [E.out]
      clear h2
      go_enter Try.func77, Try.ntmps77
      go_wp2_with (first | (go_at_call 71; (with_reducible refine HA.out.mono ?_); rintro e w1 ⟨rfl, rfl⟩) | (go_at_call 71; (with_reducible refine HB.out.mono ?_); rintro e w1 ⟨rfl, rfl⟩))
      go_ret
      exact ⟨ret_b (by simp; omega), rfl⟩
theorem OwnI.first {w : World} {base : Nat} {B : Option Addr} {n d : Nat} {xs : List Int} (h : OwnI w base (.slice B n d) xs) (hx : 0 < xs.length) : ∃ g, B = some ⟨g, 0, none⟩ ∧ g < w.heap.size ∧ base ≤ g := by
  have h9 := h.2
  rcases h9 with ⟨hv, h0⟩ | ⟨g, c, cur, hv, hb, hg, r⟩
  · omega
  · simp only [Value.slice.injEq] at hv
    obtain ⟨rfl, -, -⟩ := hv
    exact ⟨g, rfl, (World.ownsRow.lt h g rfl).2, hb⟩
/-- Sorting's result. -/
def SortedOf (xs : List Int) (w : World) (e : Ending) (w' : World) : Prop := ∃ ys u, e = .returned u ∧ ys.Perm xs ∧ ys.Pairwise Num.leP ∧ OwnI w' w.heap.size u ys ∧ Below w.heap.size w w'
theorem small_perm {xs zs : List Int} (h : ∀ x ∈ xs, x ≤ 1000000) (hp : zs.Perm xs) (j : Nat) : zs.getD j 0 ≤ 1000000 := by
  by_cases hj : j < zs.length
  · have e : zs.getD j 0 = zs[j] := by simp [hj]
    rw [e]
    exact h _ (hp.mem_iff.mp (List.getElem_mem hj))
  · rw [List.getD_eq_getElem?_getD, List.getElem?_eq_none (by omega)]; simp
set_option maxRecDepth 100000 in
set_option maxHeartbeats 2000000 in
theorem sSorted_any (v : Value) (xs : List Int) (w : World) (h : spI.rd w v xs) (hl : xs.length ≤ 1000) (hs : ∀ x ∈ xs, x ≤ 1000000) : Calls Try.prog 70 #[v] w (SortedOf xs w) := by
  have HC := Lib.hid (sOwnI_any v xs w h (by omega))
  have HS : Hid (∀ zs : List Int, zs.Perm xs → ∀ j, zs.getD j 0 ≤ 1000000) := Lib.hid fun zs hp j => small_perm hs hp j
  obtain ⟨A, c, rfl, -, -⟩ := h
  clear hs
  go_enter Try.func70, Try.ntmps70
  go_wp2_with (fail)
  refine HC.out.mono ?_; rintro e w1 ⟨u, rfl, ho, hb⟩
  obtain ⟨B, d, rfl⟩ := ho.form
  have HO := Lib.hid ho
  clear HC ho
  go_wp2_with (fail)
  go_loopw [4] (fun s4 wr => ∃ (i : Nat) (zs : List Int), s4 = .int .i64 i ∧ 1 ≤ i ∧ (i ≤ xs.length ∨ i = 1) ∧ Hid (zs.Perm xs) ∧ zs.length = xs.length ∧ Hid (Num.Ord zs i) ∧ Hid (OwnI wr w.heap.size (.slice B xs.length d) zs) ∧ Below w.heap.size w wr) (fun s4 _ => xs.length - (intOf s4).toNat)
  case atStart => exact ⟨1, xs, rfl, by omega, by omega, Lib.hid (List.Perm.refl _), rfl, Lib.hid (Num.ord_one xs), HO, hb⟩
  case round =>
    obtain ⟨i, zs, rfl, i1, i2, HP, hzl, HOR, HO2, bw⟩ := hrel
    clear HO hb
    by_cases hlt : i < xs.length
    · have j1 : (i : Int) < (xs.length : Int) := by omega
      have HI := Lib.hid (Num.ordBut_start HOR.out)
      go_wp2_with (fail)
      generalize wr = W0 at *
      go_loopw [5] (fun s5 wq => ∃ (j : Nat) (ys : List Int) (n : Nat) (W1 : World), wq = W1.drewN n ∧ s5 = .int .i64 j ∧ j ≤ i ∧ Hid (ys.Perm xs) ∧ ys.length = xs.length ∧ Hid (Num.OrdBut ys i j) ∧ Hid (OwnI W1 w.heap.size (.slice B xs.length d) ys) ∧ Below w.heap.size w W1) (fun s5 _ => (intOf s5).toNat)
      case atStart => exact ⟨i, zs, 0, _, rfl, rfl, by omega, HP, hzl, HI, HO2, bw⟩
      case round =>
        obtain ⟨j, ys, n, W1, rfl, rfl, hji, HP3, hyl, HI3, HO3, bw3⟩ := hrel
        clear HI HOR HO2 HP
        by_cases hj0 : 0 < j
        · have k1 : (0 : Int) < (j : Int) := by omega
          have k2 : (0 : Int) ≤ (j : Int) - 1 := by omega
          have k3 : (j : Int) < (xs.length : Int) := by omega
          have k4 : (j : Int) - 1 < (xs.length : Int) := by omega
          have k0 : (0 : Int) ≤ (j : Int) := by omega
          obtain ⟨g, rfl, hg, hgb⟩ := HO3.out.first (by omega)
          obtain ⟨hc, hfz⟩ := HO3.out.at_ j (by omega)
          obtain ⟨hc', hfz'⟩ := HO3.out.at_ (j - 1) (by omega)
          have hb1 := HS.out ys HP3.out j
          have hb2 := HS.out ys HP3.out (j - 1)
          have HBF : Hid (∀ W, Calls Try.prog 77 #[.int .i64 (ys.getD j 0), .int .i64 (ys.getD (j - 1) 0)] W fun e w' => e = .returned (.bool (decide (Num.befP (ys.getD j 0) (ys.getD (j - 1) 0)))) ∧ W = w') := Lib.hid fun W => sBefore_any _ _ W hb1 hb2
          by_cases hbf : Num.befP (ys.getD j 0) (ys.getD (j - 1) 0)
          · rw [decide_eq_true hbf] at HBF
            have HI4 := Lib.hid (Num.ordBut_swap HI3.out hj0 (by omega) hbf)
            have HP4 := Lib.hid ((Num.swapI_perm hj0 (by omega : j < ys.length)).trans HP3.out)
            have hl4 : (Num.swapI ys j).length = xs.length := by rw [Num.swapI_len]; exact hyl
            have HSW : Hid ((ys.set j (ys.getD (j - 1) 0)).set (j - 1) (ys.getD j 0) = Num.swapI ys j) := Lib.hid rfl
            have k5 : ¬ (j = j - 1) := by omega
            have k6 : ¬ (j - 1 = j) := by omega
            have EJ : ((j - 1 : Nat) : Int) = (j : Int) - 1 := by omega
            have HEJ := Lib.hid EJ
            clear hbf EJ
            generalize hX : ys.getD j 0 = X at *
            generalize hY : ys.getD (j - 1) 0 = Y at *
            have HX := Lib.hid hX
            have HY := Lib.hid hY
            clear hX hY
            go_wp2_with (fail)
            go_quiet ((go_at_call 77; exact quiet_more fun W hW => HBF.out W))
            have O5 : OwnI (W1.drewN (n + nq)) w.heap.size (.slice (some ⟨g, 0, none⟩) xs.length d) ys := HO3.out.drewN _
            have O6 := O5.set j Y
            obtain ⟨c3, f3⟩ := O6.at_ (j - 1) (by simp; omega)
            have O7 := O6.set (j - 1) X
            rw [HSW.out] at O7
            have HO7 := Lib.hid O7
            have bw7 : Below w.heap.size w (((W1.drewN (n + nq)).setCell ⟨g, j, none⟩ (.int .i64 Y)).setCell ⟨g, j - 1, none⟩ (.int .i64 X)) := ((below_drewN bw3 _).setCell hgb _).setCell hgb _
            clear O5 O6 O7
            generalize (ys.set j Y).getD (j - 1) 0 = Z at *
            go_wp2_with (fail)
            exact ⟨⟨j - 1, Num.swapI ys j, 0, _, rfl, by rw [HEJ.out], by omega, HP4, hl4, HI4, HO7, bw7⟩, by simp [intOf]; omega⟩
          · rw [decide_eq_false hbf] at HBF
            have HI4 := Lib.hid (Num.ordBut_stop HI3.out hj0 hbf)
            clear hbf
            generalize ys.getD j 0 = X at *
            generalize ys.getD (j - 1) 0 = Y at *
            go_wp2_with (fail)
            go_quiet ((go_at_call 77; exact quiet_more fun W hW => HBF.out W))
            go_wp2_with (fail)
            exact ⟨⟨i + 1, ys, by go_num, by omega, by omega, HP3, hyl, HI4, Lib.hid (HO3.out.drewN _), below_drewN bw3 _⟩, by simp [intOf]; omega⟩
        · obtain rfl : j = 0 := by omega
          have HI4 := Lib.hid (Num.ordBut_zero HI3.out)
          go_wp2_with (fail)
          go_quiet (fail)
          go_wp2_with (fail)
          exact ⟨⟨i + 1, ys, by go_num, by omega, by omega, HP3, hyl, HI4, Lib.hid (HO3.out.drewN _), below_drewN bw3 _⟩, by simp [intOf]; omega⟩
    · have hge : ¬ ((i : Int) < (xs.length : Int)) := by omega
      have HF := Lib.hid (Num.ord_short HOR.out (by omega))
      go_wp2_with (fail)
      go_ret
      exact ⟨zs, _, rfl, HP.out, HF.out, HO2.out, bw⟩
set_option maxRecDepth 100000 in
set_option maxHeartbeats 2000000 in
theorem sParts_any (A : Option Addr) (c : Nat) (F : List Int) (w : World) (h : RdI w A F) (hl : F.length ≤ 10) (hF : ∀ j, j < F.length → 1 ≤ F.getD j 0 ∧ F.getD j 0 ≤ 1000000) :
    Calls Try.prog 54 #[.slice A F.length c] w (SortedOf (F.flatMap Num.ppart) w) := by
  obtain ⟨i0, hi, hz0, hz1, hz2⟩ := info_parts infoI
  have HF := Lib.hid h
  have HR := Lib.hid hF
  have HFM : Hid (∀ f ∈ F, 1 ≤ f ∧ f ≤ 1000000) := Lib.hid (Num.mem_at hF)
  have HT : Hid (∀ j, j < F.length → (F.take (j + 1)).flatMap Num.ppart = (F.take j).flatMap Num.ppart ++ Num.ppart (F.getD j 0)) := Lib.hid fun j hj => by
    rw [List.take_succ_eq_append_getElem hj, List.flatMap_append]
    simp [hj]
  have HTL : Hid (∀ j, ((F.take j).flatMap Num.ppart).length ≤ 190) := Lib.hid fun j => by
    have := (Num.flat_bd (F := F.take j) (fun f hf => HFM.out f (List.mem_of_mem_take hf))).2
    simp only [List.length_take] at this
    omega
  clear h hF
  go_enter Try.func54, Try.ntmps54
  go_wp2_with (fail)
  go_loopw [3, 4] (fun s3 s4 wr => ∃ k : Nat, s4 = .int .i64 k ∧ k ≤ F.length ∧ Hid (OwnI wr w.heap.size s3 ((F.take k).flatMap Num.ppart)) ∧ Below w.heap.size w wr) (fun _ s4 _ => F.length - (intOf s4).toNat)
  case atStart => exact ⟨0, rfl, by omega, Lib.hid (World.ownsRow_lit w #[] 0 (Nat.le_refl _) (by unfold maxLen; omega) rfl), by go_grown⟩
  case round =>
    obtain ⟨k, rfl, hk, HO, bw⟩ := hrel
    by_cases hlt : k < F.length
    · obtain ⟨g, o, rfl, hg, hc⟩ := (HF.out.below' bw) k hlt
      have k0 : (0 : Int) ≤ (k : Int) := by omega
      have k1 : (k : Int) < (F.length : Int) := by omega
      obtain ⟨f1, f2⟩ := HR.out k hlt
      have HTK := Lib.hid (HT.out k hlt)
      have hpl := HTL.out k
      have HPL := Lib.hid (Num.ppart_len f1 f2)
      generalize F.getD k 0 = f at *
      generalize (F.take k).flatMap Num.ppart = Q at *
      have HI0 := Lib.hid (Num.pwInv_start f1)
      go_wp2_with (fail)
      generalize wr = W0 at *
      go_loopw [3, 5, 6] (fun s3 s5 s6 wq => ∃ (cc d : Int) (qs : List Int), s5 = .int .i64 cc ∧ s6 = .int .i64 d ∧ Num.PwInv f d cc qs ∧ Hid (OwnI wq w.heap.size s3 (Q ++ qs)) ∧ Below w.heap.size w wq) (fun _ s5 s6 _ => (intOf s5).toNat * 2000000 + (1000001 - intOf s6).toNat)
      case atStart => exact ⟨f, 2, [], rfl, rfl, HI0.out, Lib.hid (by rw [List.append_nil]; exact HO.out), bw⟩
      case round =>
        obtain ⟨cc, d, qs, rfl, rfl, hinv, HO2, bw2⟩ := hrel
        clear HO
        obtain ⟨d1, d2, c1, c2, heq⟩ := hinv
        have hinv : Num.PwInv f d cc qs := ⟨d1, d2, c1, c2, heq⟩
        obtain ⟨q1, q2⟩ := Num.sq_fits d1 d2
        have hql : qs.length ≤ 19 := by have := HPL.out; rw [← heq] at this; simp at this; omega
        have hql2 : (Q ++ qs).length ≤ 300 := by rw [List.length_append]; omega
        have HB := Lib.hid HO2.out.base_le
        have bws := bw2.size
        clear heq
        by_cases hc1 : cc = 1
        · subst hc1
          have HE := Lib.hid (Num.pwInv_end hinv)
          clear hinv
          go_wp2_with (fail)
          exact ⟨⟨k + 1, by go_num, by omega, Lib.hid (by rw [HTK.out, ← HE.out]; exact HO2.out), bw2⟩, by simp [intOf]; omega⟩
        · have hcc : 1 < cc := by omega
          by_cases hs : d * d ≤ cc
          · have hb := Num.sq_big d1 hs
            have p0 : 2 ≤ d := d1
            have ns : ¬ cc < d * d := by omega
            have d3 : d ≤ 1000000 := by omega
            by_cases hm : cc % d = 0
            · have HNX := Lib.hid (Num.pwInv_div f2 hinv hs hm)
              have hgt : 1 < Num.pp d cc := by
                have e := Num.pp_step d1 c1 hm
                have h2 := (Num.pp_bd d1 (Num.div_bd d1 c1 hm).1).1
                have := Int.mul_le_mul d1 h2 (by omega) (by omega)
                omega
              have HGT := Lib.hid hgt
              clear hm hinv hgt
              -- A
              obtain ⟨PP, hPP⟩ : ∃ PP, PP = Num.pp d cc := ⟨_, rfl⟩
              obtain ⟨VR, hVR⟩ : ∃ VR, VR = Num.vr d cc := ⟨_, rfl⟩
              have HPE : Hid (∀ c' o, Num.PartInv d cc c' o → c' % d ≠ 0 → o = PP ∧ c' = VR) := Lib.hid fun c' o hi hd => by
                have e1 := Num.partInv_end p0 hi hd
                exact ⟨by rw [hPP]; exact e1, by rw [hVR]; exact Num.part_rest p0 c1 hi e1⟩
              rw [← hPP, ← hVR] at HNX
              rw [← hPP] at HGT
              have HVB : 1 ≤ VR ∧ VR ≤ cc := by rw [hVR]; exact Num.vr_bd p0 c1
              obtain ⟨vb1, vb2⟩ := HVB
              clear hPP hVR
              go_wp2_with (fail)
              go_loop [5, 7] (fun s5 s7 => ∃ c' o : Int, s5 = .int .i64 c' ∧ s7 = .int .i64 o ∧ Num.PartInv d cc c' o) (fun s5 _ => (intOf s5).toNat)
              case atStart => exact ⟨cc, 1, rfl, rfl, Num.partInv_start c1⟩
              case round =>
                obtain ⟨c', o, rfl, rfl, hpi⟩ := hrel
                obtain ⟨b1, b2, b3, b4⟩ := Num.partInv_bd hpi
                by_cases hd : c' % d = 0
                · obtain ⟨e1, e2, e3⟩ := Num.div_bd p0 b1 hd
                  have hs2 := Num.partInv_step p0 hpi hd
                  obtain ⟨x1, x2, x3, x4⟩ := Num.partInv_bd hs2
                  have ht : (c' % d == 0) = true := by simp [hd]
                  clear e3 hd
                  go_wp2
                  exact ⟨⟨_, _, rfl, rfl, hs2⟩, by simp [intOf]; omega⟩
                · have ht : (c' % d == 0) = false := by simp [hd]
                  obtain ⟨rfl, rfl⟩ := HPE.out c' o hpi hd
                  clear hd hpi HPE
                  have gt : 1 < o := HGT.out
                  go_wp2_with (first | (at_builtin; refine wpList_append_own_at _ rfl (.tmp 41) (.tmp 43) 24 rfl w.heap.size 2 i0 (.int .i64 0) 1 8 Try.underlying24 hi hz0 hz1 hz2 rfl (by decide) _ _ _ rfl (HO2.out.alloc _) ⟨_, 0, none⟩ 1 1 [.int .i64 o] rfl rfl (cell_one_new _ _ _) (by simp [Value.oneCell']) (by unfold maxLen; omega) (by omega) (by simp; omega) ?_; intro v3 w3 own3 gr3 _ at3))
                  exact ⟨⟨c', d + 1, qs ++ [o], rfl, by go_num, HNX.out, Lib.hid (by rw [← List.append_assoc]; exact OwnI.snoc own3), (bw2.alloc (by omega) _).grown gr3 (by simp; omega) HB.out⟩, by simp [intOf]; omega⟩
            · have HNX0 := Num.pwInv_skip f2 hinv hs hm
              have HNX : Hid (Num.PwInv f (d + 1) (Num.vr d cc) qs) := Lib.hid (by rw [(Num.v_stop c1 d1 hm).2]; exact HNX0)
              have hgt : ¬ 1 < Num.pp d cc := by rw [Num.pp_stop d1 c1 hm]; omega
              have HGT := Lib.hid hgt
              clear hm hinv hgt HNX0
              obtain ⟨PP, hPP⟩ : ∃ PP, PP = Num.pp d cc := ⟨_, rfl⟩
              obtain ⟨VR, hVR⟩ : ∃ VR, VR = Num.vr d cc := ⟨_, rfl⟩
              have HPE : Hid (∀ c' o, Num.PartInv d cc c' o → c' % d ≠ 0 → o = PP ∧ c' = VR) := Lib.hid fun c' o hi hd => by
                have e1 := Num.partInv_end p0 hi hd
                exact ⟨by rw [hPP]; exact e1, by rw [hVR]; exact Num.part_rest p0 c1 hi e1⟩
              rw [← hVR] at HNX
              rw [← hPP] at HGT
              have HVB : 1 ≤ VR ∧ VR ≤ cc := by rw [hVR]; exact Num.vr_bd p0 c1
              obtain ⟨vb1, vb2⟩ := HVB
              clear hPP hVR
              go_wp2_with (fail)
              go_loop [5, 7] (fun s5 s7 => ∃ c' o : Int, s5 = .int .i64 c' ∧ s7 = .int .i64 o ∧ Num.PartInv d cc c' o) (fun s5 _ => (intOf s5).toNat)
              case atStart => exact ⟨cc, 1, rfl, rfl, Num.partInv_start c1⟩
              case round =>
                obtain ⟨c', o, rfl, rfl, hpi⟩ := hrel
                obtain ⟨b1, b2, b3, b4⟩ := Num.partInv_bd hpi
                by_cases hd : c' % d = 0
                · obtain ⟨e1, e2, e3⟩ := Num.div_bd p0 b1 hd
                  have hs2 := Num.partInv_step p0 hpi hd
                  obtain ⟨x1, x2, x3, x4⟩ := Num.partInv_bd hs2
                  have ht : (c' % d == 0) = true := by simp [hd]
                  clear e3 hd
                  go_wp2
                  exact ⟨⟨_, _, rfl, rfl, hs2⟩, by simp [intOf]; omega⟩
                · have ht : (c' % d == 0) = false := by simp [hd]
                  obtain ⟨rfl, rfl⟩ := HPE.out c' o hpi hd
                  clear hd hpi HPE
                  have gt : ¬ 1 < o := by have := HGT.out; omega
                  go_wp2_with (fail)
                  exact ⟨⟨c', d + 1, qs, rfl, by go_num, HNX.out, HO2, bw2⟩, by simp [intOf]; omega⟩
          · have hs' : cc < d * d := by omega
            have p0 : 2 ≤ cc := by omega
            have HNX : Hid (Num.PwInv f (cc + 1) (Num.vr cc cc) (qs ++ [Num.pp cc cc])) := Lib.hid (by rw [(Num.pp_self hcc).1, (Num.pp_self hcc).2]; exact Num.pwInv_last f2 hinv hs' hcc)
            have HGT : Hid (1 < Num.pp cc cc) := Lib.hid (by rw [(Num.pp_self hcc).1]; exact hcc)
            have HV1 : Hid (Num.vr cc cc = 1) := Lib.hid (Num.pp_self hcc).2
            clear hinv
            obtain ⟨PP, hPP⟩ : ∃ PP, PP = Num.pp cc cc := ⟨_, rfl⟩
            obtain ⟨VR, hVR⟩ : ∃ VR, VR = Num.vr cc cc := ⟨_, rfl⟩
            have HPE : Hid (∀ c' o, Num.PartInv cc cc c' o → c' % cc ≠ 0 → o = PP ∧ c' = VR) := Lib.hid fun c' o hi hd => by
              have e1 := Num.partInv_end p0 hi hd
              exact ⟨by rw [hPP]; exact e1, by rw [hVR]; exact Num.part_rest p0 c1 hi e1⟩
            rw [← hPP, ← hVR] at HNX
            rw [← hPP] at HGT
            rw [← hVR] at HV1
            have HVB : 1 ≤ VR ∧ VR ≤ cc := by rw [hVR]; exact Num.vr_bd p0 c1
            obtain ⟨vb1, vb2⟩ := HVB
            clear hPP hVR
            go_wp2_with (fail)
            go_loop [5, 7] (fun s5 s7 => ∃ c' o : Int, s5 = .int .i64 c' ∧ s7 = .int .i64 o ∧ Num.PartInv cc cc c' o) (fun s5 _ => (intOf s5).toNat)
            case atStart => exact ⟨cc, 1, rfl, rfl, Num.partInv_start c1⟩
            case round =>
              obtain ⟨c', o, rfl, rfl, hpi⟩ := hrel
              obtain ⟨b1, b2, b3, b4⟩ := Num.partInv_bd hpi
              by_cases hd : c' % cc = 0
              · obtain ⟨e1, e2, e3⟩ := Num.div_bd p0 b1 hd
                have hs2 := Num.partInv_step p0 hpi hd
                obtain ⟨x1, x2, x3, x4⟩ := Num.partInv_bd hs2
                have ht : (c' % cc == 0) = true := by simp [hd]
                clear e3 hd
                go_wp2
                exact ⟨⟨_, _, rfl, rfl, hs2⟩, by simp [intOf]; omega⟩
              · have ht : (c' % cc == 0) = false := by simp [hd]
                obtain ⟨rfl, rfl⟩ := HPE.out c' o hpi hd
                clear hd hpi HPE
                have gt : 1 < o := HGT.out
                go_wp2_with (first | (at_builtin; refine wpList_append_own_at _ rfl (.tmp 41) (.tmp 43) 24 rfl w.heap.size 2 i0 (.int .i64 0) 1 8 Try.underlying24 hi hz0 hz1 hz2 rfl (by decide) _ _ _ rfl (HO2.out.alloc _) ⟨_, 0, none⟩ 1 1 [.int .i64 o] rfl rfl (cell_one_new _ _ _) (by simp [Value.oneCell']) (by unfold maxLen; omega) (by omega) (by simp; omega) ?_; intro v3 w3 own3 gr3 _ at3))
                exact ⟨⟨c', cc + 1, qs ++ [o], rfl, by go_num, HNX.out, Lib.hid (by rw [← List.append_assoc]; exact OwnI.snoc own3), (bw2.alloc (by omega) _).grown gr3 (by simp; omega) HB.out⟩, by have := HV1.out; simp [intOf]; omega⟩
    · obtain rfl : k = F.length := by omega
      have hge : ¬ ((F.length : Int) < (F.length : Int)) := by omega
      have HTE : Hid ((F.take F.length).flatMap Num.ppart = F.flatMap Num.ppart) := Lib.hid (by rw [List.take_length])
      have HL2 := HTL.out F.length
      rw [HTE.out] at HO HL2
      have HSM := Lib.hid (Num.flat_bd HFM.out).1
      generalize F.flatMap Num.ppart = R at *
      obtain ⟨A', c', rfl⟩ := HO.out.form
      have HC := Lib.hid (sSorted_any (.slice A' R.length c') R wr ⟨A', c', rfl, by unfold maxLen; omega, HO.out.reads⟩ (by omega) (fun x hx => (HSM.out x hx).2))
      clear HO
      go_wp2_with (fail)
      refine HC.out.mono ?_; rintro e w2 ⟨ys, u, rfl, hp, hs, ho, hb⟩
      have HO3 := Lib.hid (ownsRow_base ho bw.size)
      have LZ := bstep bw bw.size hb
      clear HC ho hb
      go_wp2_with (fail)
      go_ret
      exact ⟨ys, u, rfl, hp, hs, HO3.out, LZ⟩
end Go.Proofs.Ytpplojbcjgiabaa
