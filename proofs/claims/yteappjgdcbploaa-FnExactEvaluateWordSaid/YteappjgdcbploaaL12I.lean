/- Consistency of the program: isMapped, isInner. -/
import Derived.Test.YteappjgdcbploaaL12H
import Derived.Deep.DeepCutAuto
namespace Go.Proofs.Yteappjgdcbploaa
open Go.RowKit
set_option linter.unusedVariables false
set_option linter.unusedSimpArgs false

section
variable {O : List Int} {W : List (List Int)} {J : List (List (List Int))}
theorem sub_ok (j : Nat) (i : Nat) (h : i < j) : ∃ q, q = j - (i + 1) ∧ i + 1 + q = j := ⟨_, rfl, by omega⟩
/-- The image of a generator. -/
theorem imageGen_any (V : Num.Val O W J) (i : Nat) (hi : i < O.length) (C : Num.Con (Num.tlL O W J (i + 1))) (t : Tw) (bm : Nat) (w0 : World) (HT : ∀ w', ChgS (fun k => k = bm) w0 w' → TwR O W J t (i + 1) w') (j : Nat) (hij : i < j) (hj : j < O.length) (w : World) (hc : ChgS (fun k => k = bm) w0 w) (hs : MSt O W J i t.bo bm w) :
    Calls Try.prog 166 #[.pointer (some ⟨t.tb, 0, none⟩), .int .i64 (i : Int), .int .i64 (Num.szL (Num.tlL O W J (j + 1)))] w fun e w' => e = .returned (.int .i64 (Num.numL (Num.tlL O W J (i + 1)) (Num.cV J i j))) ∧ ChgS (fun k => k = bm) w w' ∧ MSt O W J i t.bo bm w' := by
  obtain ⟨q, hq, e⟩ := sub_ok j i hij
  obtain ⟨g, g1, g2, g3⟩ := gen_num V hi C (q := q) (by omega)
  have h := image_any V i hi C t bm w0 HT 200000 g w g1 (by have := num_ok V g1; omega) hc hs
  have e2 : (Num.lvA O W J i).cj.getD q [] = Num.cV J i j := by rw [hq]; exact Num.lvA_cjD V hij hj
  rw [g2, g3, e2, e] at h
  exact h
/-- The image of a vector. -/
theorem imageVec_any (V : Num.Val O W J) (i : Nat) (hi : i < O.length) (C : Num.Con (Num.tlL O W J (i + 1))) (t : Tw) (bm : Nat) (w0 : World) (HT : ∀ w', ChgS (fun k => k = bm) w0 w' → TwR O W J t (i + 1) w') (a : List Int) (ha : Num.El (Num.tlL O W J (i + 1)) a) (w : World) (hc : ChgS (fun k => k = bm) w0 w) (hs : MSt O W J i t.bo bm w) :
    Calls Try.prog 166 #[.pointer (some ⟨t.tb, 0, none⟩), .int .i64 (i : Int), .int .i64 (Num.numL (Num.tlL O W J (i + 1)) a)] w fun e w' => e = .returned (.int .i64 (Num.numL (Num.tlL O W J (i + 1)) (Num.imgL (Num.lvA O W J i) (Num.tlL O W J (i + 1)) a))) ∧ ChgS (fun k => k = bm) w w' ∧ MSt O W J i t.bo bm w' :=
  image_any V i hi C t bm w0 HT 200000 a w ha (by have := num_ok V ha; omega) hc hs
theorem cV_El (V : Num.Val O W J) {i j : Nat} (hij : i < j) (hj : j < O.length) : Num.El (Num.tlL O W J (i + 1)) (Num.cV J i j) := V.ce i (j - (i + 1)) (i + 1) (by omega) (by omega)
theorem num_eq (V : Num.Val O W J) {i : Nat} {a b : List Int} (ha : Num.El (Num.tlL O W J (i + 1)) a) (hb : Num.El (Num.tlL O W J (i + 1)) b) : (Num.numL (Num.tlL O W J (i + 1)) a == Num.numL (Num.tlL O W J (i + 1)) b) = decide (a = b) := by
  rw [Bool.eq_iff_iff]
  simp only [beq_iff_eq, decide_eq_true_eq]
  exact ⟨fun h => Num.numL_inj (V.ok (i + 1)) ha hb h, fun h => by rw [h]⟩
end
set_option maxRecDepth 100000 in
set_option maxHeartbeats 4000000 in
theorem isMapped_P {O : List Int} {W : List (List Int)} {J : List (List (List Int))} (V : Num.Val O W J) (i : Nat) (hi : i < O.length) (C : Num.Con (Num.tlL O W J (i + 1))) (t : Tw) (bm : Nat) (w0 : World) (HT : ∀ w', ChgS (fun k => k = bm) w0 w' → TwR O W J t (i + 1) w') (j : Nat) (hij : i < j) (hj : j < O.length) (v : Value) (w : World)
    (hp : RelRd w (v, ⟨W.getD j [], (j : Int), (j : Int), O.getD j 0⟩)) (hc : ChgS (fun k => k = bm) w0 w) (hs : MSt O W J i t.bo bm w) :
    Calls Try.prog 164 #[.pointer (some ⟨t.tb, 0, none⟩), .int .i64 (i : Int), relV (v, ⟨W.getD j [], (j : Int), (j : Int), O.getD j 0⟩)] w fun e w' => e = .returned (.bool (Num.bP O W J i j)) ∧ ChgS (fun k => k = bm) w w' ∧ MSt O W J i t.bo bm w' := by
  have n6 := V.n6
  have hp0 := hp
  have xl : (W.getD j []).length = O.length := V.wl j hj
  have xz : ∀ z, z ≤ j → (W.getD j []).getD z 0 = 0 := fun z hz => V.wz j z hj hz
  have xe : ∀ z, Num.El (Num.tlL O W J z) ((W.getD j []).drop z) := fun z => V.we j z hj
  obtain ⟨A, c, e, hA, hlm⟩ := hp
  simp only at e hA hlm
  subst e
  have HIG : Hid (∀ j, i < j → j < O.length → ∀ w', ChgS (fun k => k = bm) w0 w' → MSt O W J i t.bo bm w' → Calls Try.prog 166 #[.pointer (some ⟨t.tb, 0, none⟩), .int .i64 (i : Int), .int .i64 (Num.szL (Num.tlL O W J (j + 1)))] w' fun e w'' => e = .returned (.int .i64 (Num.numL (Num.tlL O W J (i + 1)) (Num.cV J i j))) ∧ ChgS (fun k => k = bm) w' w'' ∧ MSt O W J i t.bo bm w'') := Lib.hid fun j h1 h2 w' h3 h4 => imageGen_any V i hi C t bm w0 HT j h1 h2 w' h3 h4
  have e0 := Num.num_pad (W := W) (J := J) xl (i + 1) (by omega) (fun z hz => xz z (by omega))
  have hOi := V.ok i
  rw [Num.tlL_step hi] at hOi
  have hIE := Num.El.img hOi ((W.getD j []).drop (i + 1))
  have HIV : Hid (∀ w', ChgS (fun k => k = bm) w0 w' → MSt O W J i t.bo bm w' → Calls Try.prog 166 #[.pointer (some ⟨t.tb, 0, none⟩), .int .i64 (i : Int), .int .i64 (Num.numL (Num.tlL O W J 0) (W.getD j []))] w' fun e w'' => e = .returned (.int .i64 (Num.numL (Num.tlL O W J (i + 1)) (Num.imgL (Num.lvA O W J i) (Num.tlL O W J (i + 1)) ((W.getD j []).drop (i + 1))))) ∧ ChgS (fun k => k = bm) w' w'' ∧ MSt O W J i t.bo bm w'') := Lib.hid fun w' h3 h4 => by
    rw [e0]; exact imageVec_any V i hi C t bm w0 HT _ (xe _) w' h3 h4
  have HNU : Hid (∀ w', ChgS (fun k => k = bm) w0 w' → RdI w' A (W.getD j []) → Calls Try.prog 106 #[.pointer (some ⟨t.tb, 0, none⟩), .slice A O.length c] w' fun e w'' => e = .returned (.int .i64 (Num.numL (Num.tlL O W J 0) (W.getD j []))) ∧ w' = w'') := Lib.hid fun w' h hr => number_any V (HT w' h) (W.getD j []) A c hr xl (by simpa using xe 0)
  have HG : Hid (∀ j, j < O.length → ∀ w', ChgS (fun k => k = bm) w0 w' → Calls Try.prog 111 #[.pointer (some ⟨t.tb, 0, none⟩), .int .i64 (j : Int)] w' fun e w'' => e = .returned (.int .i64 (Num.szL (Num.tlL O W J (j + 1)))) ∧ w' = w'') := Lib.hid fun j hj w' h => gen_any V (HT w' h) j hj
  have HPW : Hid (∀ w', ChgS (fun k => k = bm) w0 w' → Calls Try.prog 170 #[.pointer (some ⟨t.tb, 0, none⟩), .int .i64 (Num.numL (Num.tlL O W J (i + 1)) (Num.cV J i j)), .int .i64 (O.getD j 0)] w' fun e w'' => e = .returned (.int .i64 (Num.numL (Num.tlL O W J (i + 1)) (Num.pw (Num.mulL (Num.tlL O W J (i + 1))) (Num.zer (O.length - (i + 1))) (Num.cV J i j) (O.getD j 0).toNat))) ∧ w' = w'') := Lib.hid fun w' h => power_any V (HT w' h) (by omega) C _ _ (cV_El V hij hj) (by have := V.ob j hj; omega) (by have := V.ob j hj; omega)
  have HRES : Hid ((Num.numL (Num.tlL O W J (i + 1)) (Num.pw (Num.mulL (Num.tlL O W J (i + 1))) (Num.zer (O.length - (i + 1))) (Num.cV J i j) (O.getD j 0).toNat) == Num.numL (Num.tlL O W J (i + 1)) (Num.imgL (Num.lvA O W J i) (Num.tlL O W J (i + 1)) ((W.getD j []).drop (i + 1)))) = Num.bP O W J i j) := Lib.hid (by
    rw [Num.bP_at V hij hj, num_eq V ((Num.Con.mon' V C).pw_P (cV_El V hij hj) _) hIE])
  have HPP := Lib.hid (isPower2_any (.slice A (W.getD j []).length c, ⟨W.getD j [], (j : Int), (j : Int), O.getD j 0⟩))
  obtain ⟨W0, hW0⟩ : ∃ X, w.alloc (.cells #[.slice A (W.getD j []).length c, .int .i64 (j : Int), .int .i64 (j : Int), .int .i64 (O.getD j 0)] 102) = X := ⟨_, rfl⟩
  have b0 : Below w.heap.size w W0 := by rw [← hW0]; go_grown
  have BX : Blk W0 w.heap.size [.slice A (W.getD j []).length c, .int .i64 (j : Int), .int .i64 (j : Int), .int .i64 (O.getD j 0)] 102 := by rw [← hW0]; exact Blk.new w [.slice A (W.getD j []).length c, .int .i64 (j : Int), .int .i64 (j : Int), .int .i64 (O.getD j 0)] 102
  have hmap := hs.inn
  obtain ⟨Dm, ⟨esm, ckm, hbm, -⟩, -⟩ := hmap
  have hbl := (hs.lt).2
  have s0 := hs.below b0
  have b1 : Below W0.heap.size W0 W0.drew := (Below.refl _ _).drew
  have s1 := s0.below b1
  have c01 : ChgS (fun k => k = bm) w W0.drew := (ChgS.of_below b0).trans (ChgS.of_below b1)
  have c1 := hc.trans c01
  have hb1 : W0.drew.heap[bm]? = some (.map esm ckm) := by show W0.heap[bm]? = _; rw [b0.block bm hbl]; exact hbm
  have BX1 : Blk W0.drew w.heap.size [.slice A (W.getD j []).length c, .int .i64 (j : Int), .int .i64 (j : Int), .int .i64 (O.getD j 0)] 102 := BX
  have hA1 : RdI W0.drew A (W.getD j []) := (hA.below' b0).below' b1
  have HKB : Hid (∀ w', ChgS (fun k => k = bm) W0.drew w' → Blk w' w.heap.size [.slice A (W.getD j []).length c, .int .i64 (j : Int), .int .i64 (j : Int), .int .i64 (O.getD j 0)] 102 ∧ RdI w' A (W.getD j [])) := Lib.hid fun w' h => ⟨Blk.chgMap hb1 h BX1, RdI.chgMap hb1 h hA1⟩
  have HSX : Hid (∀ w', ChgS (fun k => k = bm) W0.drew w' → w'.cell? ⟨w.heap.size, 0, none⟩ = some (.slice A O.length c) ∧ w'.cell? ⟨w.heap.size, 2, none⟩ = some (.int .i64 (j : Int))) := Lib.hid fun w' h => by
    obtain ⟨_, z0, z1, z2, z3⟩ := (HKB.out w' h).1.c4
    rw [xl] at z0
    exact ⟨z0, z2⟩
  obtain ⟨bl, x0, x1, x2, x3⟩ := BX.c4
  rw [xl] at x0
  have HG1 := Lib.hid (HG.out j hj W0.drew c1)
  have HI1 := Lib.hid (HIG.out j hij hj W0.drew c1 s1)
  have HRW := Lib.hid hlm
  have HXL := Lib.hid xl
  have HCW := Lib.hid c01
  unfold relV
  simp only
  clear hp0 hlm hA hA1 hbm BX BX1 hs s0 s1 hc b0 e0 hIE xz xe hOi V HT C hbl hb1
  generalize Num.numL (Num.tlL O W J (i + 1)) (Num.pw (Num.mulL (Num.tlL O W J (i + 1))) (Num.zer (O.length - (i + 1))) (Num.cV J i j) (O.getD j 0).toNat) = na at *
  generalize O.getD j 0 = oj at *
  generalize Num.numL (Num.tlL O W J (i + 1)) (Num.imgL (Num.lvA O W J i) (Num.tlL O W J (i + 1)) ((W.getD j []).drop (i + 1))) = ny at *
  generalize Num.numL (Num.tlL O W J 0) (W.getD j []) = nx at *
  generalize (W.getD j []) = xv at *
  clear xl
  go_enter Try.func164, Try.ntmps164
  go_wp2_with (fail)
  have SM1 := HSX.out _ (ChgS.refl _ _)
  go_region_held3 (fun wx => wx.cell? ⟨w.heap.size, 0, none⟩ = some (.slice A O.length c) ∧ wx.cell? ⟨w.heap.size, 2, none⟩ = some (.int .i64 (j : Int))) (first | assumption | go_keep) (first
    | (go_at_call 111; (with_reducible refine HG1.out.mono ?_); rintro e w2 ⟨rfl, rfl⟩)
    | (go_at_call 106; (with_reducible refine HN2.out.mono ?_); rintro e w3 ⟨rfl, rfl⟩; have HI2 := Lib.hid (HIV.out _ (c1.trans hc2) hs2))
    | (go_at_call 166; (with_reducible refine HI2.out.mono ?_); rintro e w3 ⟨rfl, hc3, hs3⟩; have SM3 := HSX.out _ (hc2.trans hc3))
    | (go_at_call 166; (with_reducible refine HI1.out.mono ?_); rintro e w2 ⟨rfl, hc2, hs2⟩; have SM2 := HSX.out _ hc2; have HN2 := Lib.hid (HNU.out w2 (c1.trans hc2) (HKB.out _ hc2).2)))
  have hc4 := hc2.trans hc3
  obtain ⟨BX3, hA3⟩ := HKB.out _ hc4
  have HP3 := Lib.hid (HPP.out w3 ⟨A, c, rfl, hA3, HRW.out⟩)
  obtain ⟨bl3, x0, x1, x2, x3⟩ := BX3.c4
  unfold relV at HP3
  simp only [decide_true] at HP3
  rw [HXL.out] at HP3 x0
  clear HI1 HI2 HN2 HG1 HPP SM1 SM2 SM3 hc2 hc3 hs2 hA3 HSX HNU HIV HIG
  go_wp2_with (fail)
  refine HP3.out.mono ?_; rintro e w4 ⟨rfl, hb4⟩
  have s4 := hs3.below hb4
  have hc5 := hc4.trans (ChgS.of_below hb4)
  obtain ⟨bl4, y0, y1, y2, y3⟩ := (HKB.out _ hc5).1.c4
  have c5 := c1.trans hc5
  have HS4 := Lib.hid s4
  have hcF := HCW.out.trans hc5
  clear HP3 hb4 hs3 x0 x1 x2 x3 hc4 BX3 bl3
  have HPW4 := Lib.hid (HPW.out _ c5)
  clear HPW y0 y1 y2
  go_wp2_with (fail)
  refine HPW4.out.mono ?_; rintro e w5 ⟨rfl, rfl⟩
  go_wp2_with (fail)
  go_ret
  exact ⟨ret_b HRES.out, hcF, HS4.out⟩
set_option maxRecDepth 100000 in
set_option maxHeartbeats 4000000 in
theorem isMapped_C {O : List Int} {W : List (List Int)} {J : List (List (List Int))} (V : Num.Val O W J) (i : Nat) (hi : i < O.length) (C : Num.Con (Num.tlL O W J (i + 1))) (t : Tw) (bm : Nat) (w0 : World) (HT : ∀ w', ChgS (fun k => k = bm) w0 w' → TwR O W J t (i + 1) w') (j : Nat) (hij : i < j) (hj : j < O.length) (k : Nat) (hjk : j < k) (hk : k < O.length) (o : Int) (v : Value) (w : World)
    (hp : RelRd w (v, ⟨(J.getD j []).getD (k - (j + 1)) [], (k : Int), (j : Int), o⟩)) (hc : ChgS (fun k => k = bm) w0 w) (hs : MSt O W J i t.bo bm w) :
    Calls Try.prog 164 #[.pointer (some ⟨t.tb, 0, none⟩), .int .i64 (i : Int), relV (v, ⟨(J.getD j []).getD (k - (j + 1)) [], (k : Int), (j : Int), o⟩)] w fun e w' => e = .returned (.bool (Num.bC O W J i j k)) ∧ ChgS (fun k => k = bm) w w' ∧ MSt O W J i t.bo bm w' := by
  have n6 := V.n6
  have hp0 := hp
  have xl : ((J.getD j []).getD (k - (j + 1)) []).length = O.length := V.cl j (k - (j + 1)) hj (by omega)
  have xz : ∀ z, z ≤ j → ((J.getD j []).getD (k - (j + 1)) []).getD z 0 = 0 := fun z hz => V.cz j (k - (j + 1)) z hj (by omega) hz
  have xe : ∀ z, Num.El (Num.tlL O W J z) (((J.getD j []).getD (k - (j + 1)) []).drop z) := fun z => V.ce j (k - (j + 1)) z hj (by omega)
  obtain ⟨A, c, e, hA, hlm⟩ := hp
  simp only at e hA hlm
  subst e
  have HIG : Hid (∀ j, i < j → j < O.length → ∀ w', ChgS (fun k => k = bm) w0 w' → MSt O W J i t.bo bm w' → Calls Try.prog 166 #[.pointer (some ⟨t.tb, 0, none⟩), .int .i64 (i : Int), .int .i64 (Num.szL (Num.tlL O W J (j + 1)))] w' fun e w'' => e = .returned (.int .i64 (Num.numL (Num.tlL O W J (i + 1)) (Num.cV J i j))) ∧ ChgS (fun k => k = bm) w' w'' ∧ MSt O W J i t.bo bm w'') := Lib.hid fun j h1 h2 w' h3 h4 => imageGen_any V i hi C t bm w0 HT j h1 h2 w' h3 h4
  have e0 := Num.num_pad (W := W) (J := J) xl (i + 1) (by omega) (fun z hz => xz z (by omega))
  have hOi := V.ok i
  rw [Num.tlL_step hi] at hOi
  have hIE := Num.El.img hOi (((J.getD j []).getD (k - (j + 1)) []).drop (i + 1))
  have HIV : Hid (∀ w', ChgS (fun k => k = bm) w0 w' → MSt O W J i t.bo bm w' → Calls Try.prog 166 #[.pointer (some ⟨t.tb, 0, none⟩), .int .i64 (i : Int), .int .i64 (Num.numL (Num.tlL O W J 0) ((J.getD j []).getD (k - (j + 1)) []))] w' fun e w'' => e = .returned (.int .i64 (Num.numL (Num.tlL O W J (i + 1)) (Num.imgL (Num.lvA O W J i) (Num.tlL O W J (i + 1)) (((J.getD j []).getD (k - (j + 1)) []).drop (i + 1))))) ∧ ChgS (fun k => k = bm) w' w'' ∧ MSt O W J i t.bo bm w'') := Lib.hid fun w' h3 h4 => by
    rw [e0]; exact imageVec_any V i hi C t bm w0 HT _ (xe _) w' h3 h4
  have HNU : Hid (∀ w', ChgS (fun k => k = bm) w0 w' → RdI w' A ((J.getD j []).getD (k - (j + 1)) []) → Calls Try.prog 106 #[.pointer (some ⟨t.tb, 0, none⟩), .slice A O.length c] w' fun e w'' => e = .returned (.int .i64 (Num.numL (Num.tlL O W J 0) ((J.getD j []).getD (k - (j + 1)) []))) ∧ w' = w'') := Lib.hid fun w' h hr => number_any V (HT w' h) ((J.getD j []).getD (k - (j + 1)) []) A c hr xl (by simpa using xe 0)
  have HG : Hid (∀ j, j < O.length → ∀ w', ChgS (fun k => k = bm) w0 w' → Calls Try.prog 111 #[.pointer (some ⟨t.tb, 0, none⟩), .int .i64 (j : Int)] w' fun e w'' => e = .returned (.int .i64 (Num.szL (Num.tlL O W J (j + 1)))) ∧ w' = w'') := Lib.hid fun j hj w' h => gen_any V (HT w' h) j hj
  have HTA : Hid (∀ w', ChgS (fun k => k = bm) w0 w' → Calls Try.prog 108 #[.pointer (some ⟨t.tb, 0, none⟩), .int .i64 (Num.numL (Num.tlL O W J (i + 1)) (Num.cV J i k)), .int .i64 (Num.numL (Num.tlL O W J (i + 1)) (Num.cV J i j))] w' fun e w'' => e = .returned (.int .i64 (Num.numL (Num.tlL O W J (i + 1)) (Num.mulL (Num.tlL O W J (i + 1)) (Num.cV J i k) (Num.cV J i j)))) ∧ w' = w'') := Lib.hid fun w' h => times_any V (HT w' h) (by omega) C _ _ (cV_El V (by omega) hk) (cV_El V hij hj)
  have HTB : Hid (∀ w', ChgS (fun k => k = bm) w0 w' → Calls Try.prog 108 #[.pointer (some ⟨t.tb, 0, none⟩), .int .i64 (Num.numL (Num.tlL O W J (i + 1)) (Num.cV J i j)), .int .i64 (Num.numL (Num.tlL O W J (i + 1)) (Num.imgL (Num.lvA O W J i) (Num.tlL O W J (i + 1)) (((J.getD j []).getD (k - (j + 1)) []).drop (i + 1))))] w' fun e w'' => e = .returned (.int .i64 (Num.numL (Num.tlL O W J (i + 1)) (Num.mulL (Num.tlL O W J (i + 1)) (Num.cV J i j) (Num.imgL (Num.lvA O W J i) (Num.tlL O W J (i + 1)) (((J.getD j []).getD (k - (j + 1)) []).drop (i + 1)))))) ∧ w' = w'') := Lib.hid fun w' h => times_any V (HT w' h) (by omega) C _ _ (cV_El V hij hj) hIE
  have HRES : Hid ((Num.numL (Num.tlL O W J (i + 1)) (Num.mulL (Num.tlL O W J (i + 1)) (Num.cV J i k) (Num.cV J i j)) == Num.numL (Num.tlL O W J (i + 1)) (Num.mulL (Num.tlL O W J (i + 1)) (Num.cV J i j) (Num.imgL (Num.lvA O W J i) (Num.tlL O W J (i + 1)) (((J.getD j []).getD (k - (j + 1)) []).drop (i + 1))))) = Num.bC O W J i j k) := Lib.hid (by
    rw [Num.bC_at V hij hjk hk, num_eq V (Num.El.mul (V.ok _) (cV_El V (by omega) hk) (cV_El V hij hj)) (Num.El.mul (V.ok _) (cV_El V hij hj) hIE)])
  have HIG2 := Lib.hid (HIG.out k (by omega) hk)
  have HG2 := Lib.hid (HG.out k hk)
  have HPP := Lib.hid (isPower2_any (.slice A ((J.getD j []).getD (k - (j + 1)) []).length c, ⟨(J.getD j []).getD (k - (j + 1)) [], (k : Int), (j : Int), o⟩))
  have hkj : decide ((k : Int) = (j : Int)) = false := by simp; omega
  obtain ⟨W0, hW0⟩ : ∃ X, w.alloc (.cells #[.slice A ((J.getD j []).getD (k - (j + 1)) []).length c, .int .i64 (k : Int), .int .i64 (j : Int), .int .i64 o] 102) = X := ⟨_, rfl⟩
  have b0 : Below w.heap.size w W0 := by rw [← hW0]; go_grown
  have BX : Blk W0 w.heap.size [.slice A ((J.getD j []).getD (k - (j + 1)) []).length c, .int .i64 (k : Int), .int .i64 (j : Int), .int .i64 o] 102 := by rw [← hW0]; exact Blk.new w [.slice A ((J.getD j []).getD (k - (j + 1)) []).length c, .int .i64 (k : Int), .int .i64 (j : Int), .int .i64 o] 102
  have hmap := hs.inn
  obtain ⟨Dm, ⟨esm, ckm, hbm, -⟩, -⟩ := hmap
  have hbl := (hs.lt).2
  have s0 := hs.below b0
  have b1 : Below W0.heap.size W0 W0.drew := (Below.refl _ _).drew
  have s1 := s0.below b1
  have c01 : ChgS (fun k => k = bm) w W0.drew := (ChgS.of_below b0).trans (ChgS.of_below b1)
  have c1 := hc.trans c01
  have hb1 : W0.drew.heap[bm]? = some (.map esm ckm) := by show W0.heap[bm]? = _; rw [b0.block bm hbl]; exact hbm
  have BX1 : Blk W0.drew w.heap.size [.slice A ((J.getD j []).getD (k - (j + 1)) []).length c, .int .i64 (k : Int), .int .i64 (j : Int), .int .i64 o] 102 := BX
  have hA1 : RdI W0.drew A ((J.getD j []).getD (k - (j + 1)) []) := (hA.below' b0).below' b1
  have HKB : Hid (∀ w', ChgS (fun k => k = bm) W0.drew w' → Blk w' w.heap.size [.slice A ((J.getD j []).getD (k - (j + 1)) []).length c, .int .i64 (k : Int), .int .i64 (j : Int), .int .i64 o] 102 ∧ RdI w' A ((J.getD j []).getD (k - (j + 1)) [])) := Lib.hid fun w' h => ⟨Blk.chgMap hb1 h BX1, RdI.chgMap hb1 h hA1⟩
  have HSX : Hid (∀ w', ChgS (fun k => k = bm) W0.drew w' → w'.cell? ⟨w.heap.size, 0, none⟩ = some (.slice A O.length c) ∧ w'.cell? ⟨w.heap.size, 2, none⟩ = some (.int .i64 (j : Int))) := Lib.hid fun w' h => by
    obtain ⟨_, z0, z1, z2, z3⟩ := (HKB.out w' h).1.c4
    rw [xl] at z0
    exact ⟨z0, z2⟩
  obtain ⟨bl, x0, x1, x2, x3⟩ := BX.c4
  rw [xl] at x0
  have HG1 := Lib.hid (HG.out j hj W0.drew c1)
  have HI1 := Lib.hid (HIG.out j hij hj W0.drew c1 s1)
  have HRW := Lib.hid hlm
  have HXL := Lib.hid xl
  have HCW := Lib.hid c01
  unfold relV
  simp only
  clear hp0 hlm hA hA1 hbm BX BX1 hs s0 s1 hc b0 e0 hIE xz xe hOi V HT C hbl hb1
  generalize Num.numL (Num.tlL O W J (i + 1)) (Num.mulL (Num.tlL O W J (i + 1)) (Num.cV J i j) (Num.imgL (Num.lvA O W J i) (Num.tlL O W J (i + 1)) (((J.getD j []).getD (k - (j + 1)) []).drop (i + 1)))) = nz at *
  generalize Num.numL (Num.tlL O W J (i + 1)) (Num.mulL (Num.tlL O W J (i + 1)) (Num.cV J i k) (Num.cV J i j)) = na at *
  generalize Num.numL (Num.tlL O W J (i + 1)) (Num.imgL (Num.lvA O W J i) (Num.tlL O W J (i + 1)) (((J.getD j []).getD (k - (j + 1)) []).drop (i + 1))) = ny at *
  generalize Num.numL (Num.tlL O W J 0) ((J.getD j []).getD (k - (j + 1)) []) = nx at *
  generalize ((J.getD j []).getD (k - (j + 1)) []) = xv at *
  clear xl
  go_enter Try.func164, Try.ntmps164
  go_wp2_with (fail)
  have SM1 := HSX.out _ (ChgS.refl _ _)
  go_region_held3 (fun wx => wx.cell? ⟨w.heap.size, 0, none⟩ = some (.slice A O.length c) ∧ wx.cell? ⟨w.heap.size, 2, none⟩ = some (.int .i64 (j : Int))) (first | assumption | go_keep) (first
    | (go_at_call 111; (with_reducible refine HG1.out.mono ?_); rintro e w2 ⟨rfl, rfl⟩)
    | (go_at_call 106; (with_reducible refine HN2.out.mono ?_); rintro e w3 ⟨rfl, rfl⟩; have HI2 := Lib.hid (HIV.out _ (c1.trans hc2) hs2))
    | (go_at_call 166; (with_reducible refine HI2.out.mono ?_); rintro e w3 ⟨rfl, hc3, hs3⟩; have SM3 := HSX.out _ (hc2.trans hc3))
    | (go_at_call 166; (with_reducible refine HI1.out.mono ?_); rintro e w2 ⟨rfl, hc2, hs2⟩; have SM2 := HSX.out _ hc2; have HN2 := Lib.hid (HNU.out w2 (c1.trans hc2) (HKB.out _ hc2).2)))
  have hc4 := hc2.trans hc3
  obtain ⟨BX3, hA3⟩ := HKB.out _ hc4
  have HP3 := Lib.hid (HPP.out w3 ⟨A, c, rfl, hA3, HRW.out⟩)
  obtain ⟨bl3, x0, x1, x2, x3⟩ := BX3.c4
  unfold relV at HP3
  simp only [hkj] at HP3
  rw [HXL.out] at HP3 x0
  clear HI1 HI2 HN2 HG1 HPP SM1 SM2 SM3 hc2 hc3 hs2 hA3 HSX HNU HIV HIG
  go_wp2_with (fail)
  refine HP3.out.mono ?_; rintro e w4 ⟨rfl, hb4⟩
  have s4 := hs3.below hb4
  have hc5 := hc4.trans (ChgS.of_below hb4)
  obtain ⟨bl4, y0, y1, y2, y3⟩ := (HKB.out _ hc5).1.c4
  have c5 := c1.trans hc5
  have HS4 := Lib.hid s4
  have hcF := HCW.out.trans hc5
  clear HP3 hb4 hs3 x0 x1 x2 x3 hc4 BX3 bl3
  have HG4 := Lib.hid (HG2.out _ c5)
  have HI4 := Lib.hid (HIG2.out _ c5 s4)
  clear HG2 HIG2 s4
  go_wp2_with (fail)
  refine HG4.out.mono ?_; rintro e w5 ⟨rfl, rfl⟩
  go_wp2_with (fail)
  refine HI4.out.mono ?_; rintro e w6 ⟨rfl, hc6, hs6⟩
  have HTA6 := Lib.hid (HTA.out _ (c5.trans hc6))
  have HTB6 := Lib.hid (HTB.out _ (c5.trans hc6))
  have HS6 := Lib.hid hs6
  have hcG := hcF.trans hc6
  clear HTA HTB HI4 hs6 HS4 y0 y1 y2 y3
  go_wp2_with (fail)
  refine HTA6.out.mono ?_; rintro e w7 ⟨rfl, rfl⟩
  go_wp2_with (fail)
  refine HTB6.out.mono ?_; rintro e w7 ⟨rfl, rfl⟩
  go_wp2_with (fail)
  go_ret
  exact ⟨ret_b HRES.out, hcG, HS6.out⟩
end Go.Proofs.Yteappjgdcbploaa
