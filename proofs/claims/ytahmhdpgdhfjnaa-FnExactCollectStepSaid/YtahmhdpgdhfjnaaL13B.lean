/- Collection of the model: a step. -/
import Derived.Test.YtahmhdpgdhfjnaaL13A
import Derived.Test.YtahmhdpgdhfjnaaL10F
namespace Go.Proofs.Ytahmhdpgdhfjnaa
open Go.RowKit
set_option linter.unusedVariables false
set_option linter.unusedSimpArgs false

theorem rdI_takeN {w : World} {A : Option Addr} {x : List Int} (h : RdI w A x) (k : Nat) : RdI w A (x.take k) := fun j hj => by
  have hj' : j < k ∧ j < x.length := by rw [List.length_take] at hj; omega
  have e : (x.take k).getD j 0 = x.getD j 0 := by simp [List.getD_eq_getElem?_getD, List.getElem?_take, hj'.1]
  rw [e]
  exact h j hj'.2
theorem rdI_dropN {w : World} {A : Option Addr} {c : Nat} {x : List Int} {k : Nat} (h : RdI w A x) (hc : x.length ≤ c) : RdI w (if c = k then A else A.map fun p => p.add k) (x.drop k) := by
  intro j hj
  rw [List.length_drop] at hj
  obtain ⟨g', o', e1, e2, e3⟩ := h (k + j) (by omega)
  subst e1
  rw [Num.drop_getD, if_neg (by omega)]
  exact ⟨g', o' + k, by simp [Addr.add_lit], e2, by rw [Nat.add_assoc]; exact e3⟩
theorem rdI_one (w : World) (y : Int) : RdI (w.alloc (.cells #[.int .i64 y] 2)) (some ⟨w.heap.size, 0, none⟩) [y] := OwnI.reads (base := 0) (n := 1) (cap := 1) (OwnI.lit w [y] (Nat.zero_le _) (by simp))
theorem Num.stp_dsc {O : List Int} {W : List (List Int)} {J : List (List (List Int))} {x : List Int} {t : Nat} (h : Num.dsc x t = true) :
    Num.stpW O W J x t = x.take t ++ [x.getD (t + 1) 0] ++ Num.wrd ((J.getD (x.getD (t + 1) 0 - 1).toNat []).getD (x.getD t 0 - x.getD (t + 1) 0 - 1).toNat []) ++ x.drop (t + 2) := if_pos h
theorem Num.stp_run {O : List Int} {W : List (List Int)} {J : List (List (List Int))} {x : List Int} {t : Nat} (h : Num.dsc x t = false) :
    Num.stpW O W J x t = x.take t ++ Num.wrd (W.getD (x.getD t 0 - 1).toNat []) ++ x.drop (t + (O.getD (x.getD t 0 - 1).toNat 0).toNat) := if_neg (by rw [h]; simp)
set_option maxRecDepth 100000 in
set_option maxHeartbeats 2000000 in
theorem sStep_dsc (A0 A1 A2 A : Option Addr) (c0 c1 c2 c : Nat) (O : List Int) (W : List (List Int)) (J : List (List (List Int))) (x : List Int) (t : Nat) (w : World) (V : Num.V9 O W J) (hO : RdI w A0 O) (hW : RdW w A1 W) (hJ : RdX w A2 J) (h : RdI w A x) (hl : x.length ≤ 1000) (hc : x.length ≤ c) (hp : Num.PosW O.length x) (hd : Num.dsc x t = true) :
    Calls Try.prog 89 #[.agg #[.slice A0 O.length c0, .slice A1 W.length c1, .slice A2 J.length c2], .slice A x.length c, .int .i64 (t : Int)] w fun e w' => ∃ u, e = .returned u ∧ OwnI w' w.heap.size u (Num.stpW O W J x t) ∧ Below w.heap.size w w' := by
  have h6 := V.n6
  rw [Num.stp_dsc hd]
  obtain ⟨d1, d2⟩ := Num.dsc_iff.mp hd
  clear hd
  obtain ⟨y1, y2⟩ := hp.at_ (show t < x.length by omega)
  obtain ⟨y3, y4⟩ := hp.at_ d1
  have b0 : Below w.heap.size w (w.alloc (.cells #[.slice A0 O.length c0, .slice A1 W.length c1, .slice A2 J.length c2] 28)) := by go_grown
  have BX := (Blk.new w [.slice A0 O.length c0, .slice A1 W.length c1, .slice A2 J.length c2] 28)
  obtain ⟨gx, ox, rfl, hgx, hcx⟩ := h t (by omega)
  obtain ⟨gx', ox', e2, hgx2, hcx2⟩ := h (t + 1) d1
  simp only [Option.some.injEq, Addr.mk.injEq, and_true] at e2
  obtain ⟨rfl, rfl⟩ := e2
  have t0 : (0 : Int) ≤ (t : Int) := by omega
  have t1 : (t : Int) < (x.length : Int) := by omega
  have t2 : (t : Int) ≤ (c : Int) := by omega
  have t3 : (t : Int) ≤ (x.length : Int) := by omega
  have t4 : (x.length : Int) ≤ (c : Int) := by omega
  have ta : IntKind.i64.wrap ((t : Int) + 1) = (t : Int) + 1 := IntWalk.i64_in _ (by omega)
  have ta1 : (0 : Int) ≤ (t : Int) + 1 := by omega
  have ta2 : (t : Int) + 1 < (x.length : Int) := by omega
  have ta3 : decide ((t : Int) + 1 < (x.length : Int)) = true := decide_eq_true ta2
  have ta4 : ((t : Int) + 1).toNat = t + 1 := by omega
  have tb : IntKind.i64.wrap ((t : Int) + 2) = (t : Int) + 2 := IntWalk.i64_in _ (by omega)
  have tb1 : (0 : Int) ≤ (t : Int) + 2 := by omega
  have tb2 : (t : Int) + 2 ≤ (x.length : Int) := by omega
  have tb3 : (t : Int) + 2 ≤ (c : Int) := by omega
  have tb4 : ((t : Int) + 2).toNat = t + 2 := by omega
  have tb5 : ¬ ((t : Int) + 2 < 0) := by omega
  have HTK : Hid (∀ W', Below w.heap.size w W' → RdI W' (some ⟨gx, ox, none⟩) (x.take t)) := Lib.hid fun W' hb => rdI_takeN (h.below' hb) t
  have HDR : Hid (∀ W', Below w.heap.size w W' → RdI W' (if c = t + 2 then some ⟨gx, ox, none⟩ else some ⟨gx, ox + (t + 2), none⟩) (x.drop (t + 2))) := Lib.hid fun W' hb => by
    have := rdI_dropN (k := t + 2) (h.below' hb) hc
    simpa [Addr.add_lit] using this
  obtain ⟨AD, hAD⟩ : ∃ AD, (if c = t + 2 then some (⟨gx, ox, none⟩ : Addr) else some ⟨gx, ox + (t + 2), none⟩) = AD := ⟨_, rfl⟩
  rw [hAD] at HDR
  have ltk : (x.take t).length = t := by rw [List.length_take]; omega
  have ldr : (x.drop (t + 2)).length = x.length - (t + 2) := List.length_drop
  generalize hb : x.getD t 0 = b at *
  generalize ha : x.getD (t + 1) 0 = a at *
  obtain ⟨i, hi⟩ : ∃ i, i = (a - 1).toNat := ⟨_, rfl⟩
  obtain ⟨j, hj⟩ : ∃ j, j = (b - 1).toNat := ⟨_, rfl⟩
  obtain ⟨k, hk⟩ : ∃ k, k = (b - a - 1).toNat := ⟨_, rfl⟩
  have hin : i < O.length := by omega
  have hkn : k < O.length - 1 - i := by omega
  have hlr := V.lr i hin
  obtain ⟨z1, z2⟩ := V.cf i k hin hkn
  have hwl := V.cl hin hkn
  rw [← hi, ← hk]
  obtain ⟨g2, o2, B2, d2', rfl, hg2, hc2, hl2, hr2⟩ := hJ i (by rw [V.lj]; exact hin)
  obtain ⟨g3, o3, B3, d3, rfl, hg3, hc3, hl3, hr3⟩ := hr2 k (by omega)
  have wa : IntKind.i64.wrap (a - 1) = (i : Int) := by rw [IntWalk.i64_in _ (by omega)]; omega
  have wb : IntKind.i64.wrap (b - 1) = (j : Int) := by rw [IntWalk.i64_in _ (by omega)]; omega
  have wc : IntKind.i64.wrap ((i : Int) + 1) = a := by rw [IntWalk.i64_in _ (by omega)]; omega
  have wd : IntKind.i64.wrap ((j : Int) - (i : Int)) = (k : Int) + 1 := by rw [IntWalk.i64_in _ (by omega)]; omega
  have we : IntKind.i64.wrap ((k : Int) + 1 - 1) = (k : Int) := by rw [IntWalk.i64_in _ (by omega)]; omega
  have we2 : IntKind.i64.wrap (k : Int) = (k : Int) := by rw [IntWalk.i64_in _ (by omega)]
  have dd : decide (a < b) = true := decide_eq_true d2
  have i0 : (0 : Int) ≤ (i : Int) := by omega
  have i1 : (i : Int) < (J.length : Int) := by rw [V.lj]; omega
  have k0 : (0 : Int) ≤ (k : Int) := by omega
  have k1 : (k : Int) < ((J.getD i []).length : Int) := by omega
  generalize hJi : J.getD i [] = r at *
  generalize hz : r.getD k [] = z at *
  have HWD : Hid (∀ W', Below w.heap.size w W' → Calls Try.prog 93 #[.slice B3 z.length d3] W' fun e w' => ∃ u, e = .returned u ∧ OwnI w' W'.heap.size u (Num.wrd z) ∧ Below W'.heap.size W' w') := by
    exact Lib.hid fun W' hb => sWord7_any B3 d3 z W' (hr3.below' hb) (by omega) (fun j hj => by have := z2 j (by omega); omega)
  clear hO hW hJ h V hp hr2 hr3 z1 z2 hi hj hk d2 hJi hz hb ha hlr hkn
  generalize hW0 : (w.alloc (.cells #[.slice A0 O.length c0, .slice A1 W.length c1, .slice (some ⟨g2, o2, none⟩) J.length c2] 28)) = W0 at *
  obtain ⟨bl, bx0, bx1, bx2⟩ := BX.c3
  have HOW := Lib.hid (sOwnI_any (some ⟨gx, ox, none⟩) t c (x.take t) W0 (HTK.out W0 b0) ltk (by omega))
  have z0 := b0.size
  replace hcx : W0.cell? ⟨gx, ox + t, none⟩ = _ := (b0.cell hgx).trans hcx
  replace hcx2 : W0.cell? ⟨gx, ox + (t + 1), none⟩ = _ := (b0.cell hgx).trans hcx2
  replace hc2 : W0.cell? ⟨g2, o2 + i, none⟩ = _ := (b0.cell hg2).trans hc2
  replace hc3 : W0.cell? ⟨g3, o3 + k, none⟩ = _ := (b0.cell hg3).trans hc3
  replace hgx : gx < W0.heap.size := by omega
  replace hg2 : g2 < W0.heap.size := by omega
  replace hg3 : g3 < W0.heap.size := by omega
  have BS : Hid (∀ W', Below W0.heap.size W0 W' → Below w.heap.size w W') := Lib.hid fun W' hb => bstep b0 b0.size hb
  go_enter Try.func89, Try.ntmps89
  go_wp2_with (fail)
  clear hW0
  refine HOW.out.mono ?_; rintro e w1 ⟨u1, rfl, ow1, hb1⟩
  clear HOW
  have x1 : w1.cell? ⟨gx, ox + t, none⟩ = _ := (hb1.cell hgx).trans hcx
  have x2 : w1.cell? ⟨gx, ox + (t + 1), none⟩ = _ := (hb1.cell hgx).trans hcx2
  obtain ⟨A7, n7, c7, rfl, e7⟩ := ow1.formN
  go_wp2_with (fail)
  go_quiet (fail)
  generalize hw2 : w1.drewN nq = w2
  have hb2 : Below w1.heap.size w1 w2 := by rw [← hw2]; exact below_drewN (Below.refl _ _) _
  clear hw2
  have L2 := bstep hb1 hb1.size hb2
  have x3 : w2.cell? ⟨gx, ox + t, none⟩ = _ := (L2.cell hgx).trans hcx
  have x4 : w2.cell? ⟨gx, ox + (t + 1), none⟩ = _ := (L2.cell hgx).trans hcx2
  clear x1 x2
  go_wp2_with (fail)
  go_quiet (fail)
  generalize hw3 : w2.drewN nq = w3
  have hb3 : Below w2.heap.size w2 w3 := by rw [← hw3]; exact below_drewN (Below.refl _ _) _
  clear hw3 x3 x4
  have L3 := bstep L2 L2.size hb3
  have ow3 := (ow1.below hb2).below hb3
  have BA : Below w3.heap.size w3 (w3.alloc (.cells #[.int .i64 a] 2)) := by go_grown
  have L3a := bstep L3 L3.size BA
  have ow3a := ow3.below BA
  have HL3a := L3a.size
  have HBL := Lib.hid ow3.base_le
  clear ow1 ow3 hb1 hb2 hb3 L2
  have l4 : (x.take t ++ [a]).length ≤ 1001 := by simp; omega
  go_wp2_with (first | (at_builtin; refine wpList_app_ints _ rfl _ _ rfl W0.heap.size _ (x.take t) [a] rfl ow3a (some ⟨w3.heap.size, 0, none⟩) 1 1 rfl rfl (rdI_one w3 a) (by simp; omega) HL3a ?_; intro v4 w4 own4 gr4 at4; have L4 := L3a.grown gr4 HL3a HBL.out; have f2 : w4.cell? ⟨w.heap.size, 2, none⟩ = _ := (L4.cell bl).trans bx2; have f3 : w4.cell? ⟨g2, o2 + i, none⟩ = _ := (L4.cell hg2).trans hc2; have f4 : w4.cell? ⟨g3, o3 + k, none⟩ = _ := (L4.cell hg3).trans hc3; have HW4 := Lib.hid (HWD.out w4 (BS.out _ L4)); clear L3a ow3a BA HL3a gr4 at4 HBL L3 HWD; generalize hx4 : x.take t ++ [a] = y4' at *))
  refine HW4.out.mono ?_; rintro e w5 ⟨u5, rfl, ow5, hb5⟩
  obtain ⟨A5, n5, c5, rfl, e5⟩ := ow5.formN
  have own5 := own4.below hb5
  have L5 := bstep L4 L4.size hb5
  have hz5 := L5.size
  have HBL := Lib.hid own5.base_le
  have hr5 := ow5.reads
  have l6 : (y4' ++ Num.wrd z).length ≤ 1037 := by rw [List.length_append]; omega
  clear own4 HW4 f2 f3 f4
  go_wp2_with (first
    | (at_builtin; refine wpList_app_ints _ rfl _ _ rfl W0.heap.size _ y4' (Num.wrd z) rfl own5 A5 n5 c5 e5 rfl hr5 (by omega) hz5 ?_; intro v6 w6 own6 gr6 at6; have L6 := L5.grown gr6 hz5 HBL.out; generalize hx6 : y4' ++ Num.wrd z = y6 at *; have HD6 := HDR.out w6 (BS.out _ L6); have hz6 := L6.size; have HBL6 := Lib.hid own6.base_le; clear own5 gr6 at6 hr5 ow5 hb5 L5 hz5 HBL HDR HTK)
    | (at_builtin; refine wpList_app_ints _ rfl _ _ rfl W0.heap.size _ y6 (x.drop (t + 2)) rfl own6 AD (x.length - (t + 2)) (c - (t + 2)) ldr rfl HD6 (by rw [ldr]; omega) hz6 ?_; intro v7 w7 own7 gr7 at7; have L7 := L6.grown gr7 hz6 HBL6.out))
  go_ret
  refine ⟨_, rfl, ?_, BS.out _ L7⟩
  rw [hx4, hx6]
  exact own7.base_ z0
set_option maxRecDepth 100000 in
set_option maxHeartbeats 2000000 in
theorem sStep_run (A0 A1 A2 A : Option Addr) (c0 c1 c2 c : Nat) (O : List Int) (W : List (List Int)) (J : List (List (List Int))) (x : List Int) (t : Nat) (w : World) (V : Num.V9 O W J) (hO : RdI w A0 O) (hW : RdW w A1 W) (h : RdI w A x) (hl : x.length ≤ 1000) (hc : x.length ≤ c) (hp : Num.PosW O.length x) (ht : t < x.length) (hd : Num.dsc x t = false)
    (hr : O.getD (x.getD t 0 - 1).toNat 0 ≤ (Num.runW x t : Int)) :
    Calls Try.prog 89 #[.agg #[.slice A0 O.length c0, .slice A1 W.length c1, .slice A2 J.length c2], .slice A x.length c, .int .i64 (t : Int)] w fun e w' => ∃ u, e = .returned u ∧ OwnI w' w.heap.size u (Num.stpW O W J x t) ∧ Below w.heap.size w w' := by
  have h6 := V.n6
  rw [Num.stp_run hd]
  obtain ⟨y1, y2⟩ := hp.at_ ht
  have hrl := Num.runW_len x t (by omega)
  have hnd : t + 1 < x.length → ¬ x.getD (t + 1) 0 < x.getD t 0 := fun a b => by rw [Num.dsc_iff.mpr ⟨a, b⟩] at hd; cases hd
  have b0 : Below w.heap.size w (w.alloc (.cells #[.slice A0 O.length c0, .slice A1 W.length c1, .slice A2 J.length c2] 28)) := by go_grown
  have BX := (Blk.new w [.slice A0 O.length c0, .slice A1 W.length c1, .slice A2 J.length c2] 28)
  obtain ⟨gx, ox, rfl, hgx, hcx⟩ := h t ht
  have t0 : (0 : Int) ≤ (t : Int) := by omega
  have t1 : (t : Int) < (x.length : Int) := by omega
  have t2 : (t : Int) ≤ (c : Int) := by omega
  have t3 : (t : Int) ≤ (x.length : Int) := by omega
  have t4 : (x.length : Int) ≤ (c : Int) := by omega
  have ta : IntKind.i64.wrap ((t : Int) + 1) = (t : Int) + 1 := IntWalk.i64_in _ (by omega)
  have ta1 : (0 : Int) ≤ (t : Int) + 1 := by omega
  have ta4 : ((t : Int) + 1).toNat = t + 1 := by omega
  have ltk : (x.take t).length = t := by rw [List.length_take]; omega
  have hnx : ∀ n' : Nat, t + 1 < x.length → w.cell? ⟨gx, ox + (t + 1), none⟩ = some (.int .i64 (x.getD (t + 1) 0)) := fun _ d1 => by
    obtain ⟨gx', ox', e2, hgx2, hcx2⟩ := h (t + 1) d1
    simp only [Option.some.injEq, Addr.mk.injEq, and_true] at e2
    obtain ⟨rfl, rfl⟩ := e2
    exact hcx2
  have hrd := hp
  generalize hb : x.getD t 0 = b at *
  obtain ⟨i, hi⟩ : ∃ i, i = (b - 1).toNat := ⟨_, rfl⟩
  have hin : i < O.length := by omega
  obtain ⟨o1, o2'⟩ := V.ob i hin
  obtain ⟨z1, z2⟩ := V.wf i hin
  have hwl := V.wl hin
  rw [← hi] at hr ⊢
  obtain ⟨m, hm⟩ := Int.eq_ofNat_of_zero_le (show (0 : Int) ≤ O.getD i 0 by omega)
  obtain ⟨g2, o2, B2, d2, rfl, hg2, hc2, hl2, hr2⟩ := hW i (by rw [V.lw]; exact hin)
  obtain ⟨g0, o0, rfl, hg0, hc0⟩ := hO i hin
  rw [hm] at hr hc0 ⊢
  rw [Int.toNat_natCast]
  have htm : t + m ≤ x.length := by omega
  have tb : IntKind.i64.wrap ((t : Int) + (m : Int)) = (t : Int) + (m : Int) := IntWalk.i64_in _ (by omega)
  have tb1 : (0 : Int) ≤ (t : Int) + (m : Int) := by omega
  have tb2 : (t : Int) + (m : Int) ≤ (x.length : Int) := by omega
  have tb3 : (t : Int) + (m : Int) ≤ (c : Int) := by omega
  have tb4 : ((t : Int) + (m : Int)).toNat = t + m := by omega
  have tb5 : ¬ ((t : Int) + (m : Int) < 0) := by omega
  have HTK : Hid (∀ W', Below w.heap.size w W' → RdI W' (some ⟨gx, ox, none⟩) (x.take t)) := Lib.hid fun W' hb => rdI_takeN (h.below' hb) t
  have HDR : Hid (∀ W', Below w.heap.size w W' → RdI W' (if c = t + m then some ⟨gx, ox, none⟩ else some ⟨gx, ox + (t + m), none⟩) (x.drop (t + m))) := Lib.hid fun W' hb => by
    have := rdI_dropN (k := t + m) (h.below' hb) hc
    simpa [Addr.add_lit] using this
  obtain ⟨AD, hAD⟩ : ∃ AD, (if c = t + m then some (⟨gx, ox, none⟩ : Addr) else some ⟨gx, ox + (t + m), none⟩) = AD := ⟨_, rfl⟩
  rw [hAD] at HDR
  have ldr : (x.drop (t + m)).length = x.length - (t + m) := List.length_drop
  have wb : IntKind.i64.wrap (b - 1) = (i : Int) := by rw [IntWalk.i64_in _ (by omega)]; omega
  have i0 : (0 : Int) ≤ (i : Int) := by omega
  have i1 : (i : Int) < (O.length : Int) := by omega
  have i2 : (i : Int) < (W.length : Int) := by rw [V.lw]; omega
  generalize hz : W.getD i [] = z at *
  have HWD : Hid (∀ W', Below w.heap.size w W' → Calls Try.prog 93 #[.slice B2 z.length d2] W' fun e w' => ∃ u, e = .returned u ∧ OwnI w' W'.heap.size u (Num.wrd z) ∧ Below W'.heap.size W' w') :=
    Lib.hid fun W' hb => sWord7_any B2 d2 z W' (hr2.below' hb) (by omega) (fun j hj => by have := z2 j (by omega); omega)
  clear hO hW h V hp hr2 z1 z2 hi hz hb hrl hr hm hrd o1 o2' hd
  generalize hW0 : (w.alloc (.cells #[.slice (some ⟨g0, o0, none⟩) O.length c0, .slice (some ⟨g2, o2, none⟩) W.length c1, .slice A2 J.length c2] 28)) = W0 at *
  obtain ⟨bl, bx0, bx1, bx2⟩ := BX.c3
  have HOW := Lib.hid (sOwnI_any (some ⟨gx, ox, none⟩) t c (x.take t) W0 (HTK.out W0 b0) ltk (by omega))
  have z0 := b0.size
  replace hcx : W0.cell? ⟨gx, ox + t, none⟩ = _ := (b0.cell hgx).trans hcx
  replace hc2 : W0.cell? ⟨g2, o2 + i, none⟩ = _ := (b0.cell hg2).trans hc2
  replace hc0 : W0.cell? ⟨g0, o0 + i, none⟩ = _ := (b0.cell hg0).trans hc0
  have HNX : Hid (t + 1 < x.length → W0.cell? ⟨gx, ox + (t + 1), none⟩ = some (.int .i64 (x.getD (t + 1) 0))) := Lib.hid fun a => (b0.cell hgx).trans (hnx 0 a)
  clear hnx
  replace hgx : gx < W0.heap.size := by omega
  replace hg2 : g2 < W0.heap.size := by omega
  replace hg0 : g0 < W0.heap.size := by omega
  have BS : Hid (∀ W', Below W0.heap.size W0 W' → Below w.heap.size w W') := Lib.hid fun W' hb => bstep b0 b0.size hb
  have HND := Lib.hid hnd
  clear hnd
  go_enter Try.func89, Try.ntmps89
  go_wp2_with (fail)
  clear hW0
  refine HOW.out.mono ?_; rintro e w1 ⟨u1, rfl, ow1, hb1⟩
  clear HOW
  obtain ⟨A7, n7, c7, rfl, e7⟩ := ow1.formN
  have hz1 := hb1.size
  have x1 : w1.cell? ⟨gx, ox + t, none⟩ = _ := (hb1.cell hgx).trans hcx
  have f1 : ∀ N, (w1.drewN N).cell? ⟨w.heap.size, 1, none⟩ = _ := fun N => (hb1.cell bl).trans bx1
  have f0 : ∀ N, (w1.drewN N).cell? ⟨w.heap.size, 0, none⟩ = _ := fun N => (hb1.cell bl).trans bx0
  have HWx : Hid (∀ N, Calls Try.prog 93 #[.slice B2 z.length d2] (w1.drewN N) fun e w' => ∃ u, e = .returned u ∧ OwnI w' (w1.drewN N).heap.size u (Num.wrd z) ∧ Below (w1.drewN N).heap.size (w1.drewN N) w') := Lib.hid fun N => HWD.out _ (BS.out _ (below_drewN hb1 N))
  by_cases hn : t + 1 < x.length
  · have ta2 : (t : Int) + 1 < (x.length : Int) := by omega
    have ta3 : decide ((t : Int) + 1 < (x.length : Int)) = true := decide_eq_true ta2
    have x2 : w1.cell? ⟨gx, ox + (t + 1), none⟩ = _ := (hb1.cell hgx).trans (HNX.out hn)
    have dd : decide (x.getD (t + 1) 0 < b) = false := decide_eq_false (by have := HND.out hn; omega)
    generalize x.getD (t + 1) 0 = a at *
    go_wp2_with (fail)
    go_quiet (fail)
    generalize hw3 : w1.drewN nq = w3
    have hb3 : Below w1.heap.size w1 w3 := by rw [← hw3]; exact below_drewN (Below.refl _ _) _
    have HW3 := Lib.hid (HWx.out nq)
    rw [hw3] at HW3
    clear hw3 x1 HWx f0 f1
    have L3 := bstep hb1 hb1.size hb3
    have x3 : w3.cell? ⟨gx, ox + t, none⟩ = _ := (L3.cell hgx).trans hcx
    have f1 : w3.cell? ⟨w.heap.size, 1, none⟩ = _ := (L3.cell bl).trans bx1
    have f2 : w3.cell? ⟨g2, o2 + i, none⟩ = _ := (L3.cell hg2).trans hc2
    have ow3 := ow1.below hb3
    go_wp2_with (fail)
    refine HW3.out.mono ?_; rintro e w5 ⟨u5, rfl, ow5, hb5⟩
    obtain ⟨A5, n5, c5, rfl, e5⟩ := ow5.formN
    have own5 := ow3.below hb5
    have L5 := bstep L3 L3.size hb5
    have hz5 := L5.size
    have HBL := Lib.hid own5.base_le
    have hr5 := ow5.reads
    have l6 : (x.take t ++ Num.wrd z).length ≤ 1037 := by rw [List.length_append]; omega
    clear ow1 ow3 HW3 x3 f1 f2 L3 hb3 hb1
    go_wp2_with (first
      | (at_builtin; refine wpList_app_ints _ rfl _ _ rfl W0.heap.size _ (x.take t) (Num.wrd z) rfl own5 A5 n5 c5 e5 rfl hr5 (by omega) hz5 ?_; intro v6 w6 own6 gr6 at6; have L6 := L5.grown gr6 hz5 HBL.out; generalize hx6 : x.take t ++ Num.wrd z = y6 at *; have HD6 := HDR.out w6 (BS.out _ L6); have hz6 := L6.size; have HBL6 := Lib.hid own6.base_le; have f0 : w6.cell? ⟨w.heap.size, 0, none⟩ = _ := (L6.cell bl).trans bx0; have f3 : w6.cell? ⟨g0, o0 + i, none⟩ = _ := (L6.cell hg0).trans hc0; clear own5 gr6 at6 hr5 ow5 hb5 L5 hz5 HBL HDR HTK)
      | (at_builtin; refine wpList_app_ints _ rfl _ _ rfl W0.heap.size _ y6 (x.drop (t + m)) rfl own6 AD (x.length - (t + m)) (c - (t + m)) ldr rfl HD6 (by rw [ldr]; omega) hz6 ?_; intro v7 w7 own7 gr7 at7; have L7 := L6.grown gr7 hz6 HBL6.out))
    go_ret
    refine ⟨_, rfl, ?_, BS.out _ L7⟩
    rw [hx6]
    exact own7.base_ z0
  · have ta2 : ¬ (t : Int) + 1 < (x.length : Int) := by omega
    have ta3 : decide ((t : Int) + 1 < (x.length : Int)) = false := decide_eq_false ta2
    go_wp2_with (fail)
    go_quiet (fail)
    generalize hw3 : w1.drewN nq = w3
    have hb3 : Below w1.heap.size w1 w3 := by rw [← hw3]; exact below_drewN (Below.refl _ _) _
    have HW3 := Lib.hid (HWx.out nq)
    rw [hw3] at HW3
    clear hw3 x1 HWx f0 f1
    have L3 := bstep hb1 hb1.size hb3
    have x3 : w3.cell? ⟨gx, ox + t, none⟩ = _ := (L3.cell hgx).trans hcx
    have f1 : w3.cell? ⟨w.heap.size, 1, none⟩ = _ := (L3.cell bl).trans bx1
    have f2 : w3.cell? ⟨g2, o2 + i, none⟩ = _ := (L3.cell hg2).trans hc2
    have ow3 := ow1.below hb3
    go_wp2_with (fail)
    refine HW3.out.mono ?_; rintro e w5 ⟨u5, rfl, ow5, hb5⟩
    obtain ⟨A5, n5, c5, rfl, e5⟩ := ow5.formN
    have own5 := ow3.below hb5
    have L5 := bstep L3 L3.size hb5
    have hz5 := L5.size
    have HBL := Lib.hid own5.base_le
    have hr5 := ow5.reads
    have l6 : (x.take t ++ Num.wrd z).length ≤ 1037 := by rw [List.length_append]; omega
    clear ow1 ow3 HW3 x3 f1 f2 L3 hb3 hb1
    go_wp2_with (first
      | (at_builtin; refine wpList_app_ints _ rfl _ _ rfl W0.heap.size _ (x.take t) (Num.wrd z) rfl own5 A5 n5 c5 e5 rfl hr5 (by omega) hz5 ?_; intro v6 w6 own6 gr6 at6; have L6 := L5.grown gr6 hz5 HBL.out; generalize hx6 : x.take t ++ Num.wrd z = y6 at *; have HD6 := HDR.out w6 (BS.out _ L6); have hz6 := L6.size; have HBL6 := Lib.hid own6.base_le; have f0 : w6.cell? ⟨w.heap.size, 0, none⟩ = _ := (L6.cell bl).trans bx0; have f3 : w6.cell? ⟨g0, o0 + i, none⟩ = _ := (L6.cell hg0).trans hc0; clear own5 gr6 at6 hr5 ow5 hb5 L5 hz5 HBL HDR HTK)
      | (at_builtin; refine wpList_app_ints _ rfl _ _ rfl W0.heap.size _ y6 (x.drop (t + m)) rfl own6 AD (x.length - (t + m)) (c - (t + m)) ldr rfl HD6 (by rw [ldr]; omega) hz6 ?_; intro v7 w7 own7 gr7 at7; have L7 := L6.grown gr7 hz6 HBL6.out))
    go_ret
    refine ⟨_, rfl, ?_, BS.out _ L7⟩
    rw [hx6]
    exact own7.base_ z0
theorem sStep_any (A0 A1 A2 A : Option Addr) (c0 c1 c2 c : Nat) (O : List Int) (W : List (List Int)) (J : List (List (List Int))) (x : List Int) (t : Nat) (w : World) (V : Num.V9 O W J) (hO : RdI w A0 O) (hW : RdW w A1 W) (hJ : RdX w A2 J) (h : RdI w A x) (hl : x.length ≤ 1000) (hc : x.length ≤ c) (hp : Num.PosW O.length x) (ht : t < x.length) (hr : Num.redB O x t = true) :
    Calls Try.prog 89 #[.agg #[.slice A0 O.length c0, .slice A1 W.length c1, .slice A2 J.length c2], .slice A x.length c, .int .i64 (t : Int)] w fun e w' => ∃ u, e = .returned u ∧ OwnI w' w.heap.size u (Num.stpW O W J x t) ∧ Below w.heap.size w w' := by
  cases hd : Num.dsc x t with
  | true => exact sStep_dsc A0 A1 A2 A c0 c1 c2 c O W J x t w V hO hW hJ h hl hc hp hd
  | false =>
    refine sStep_run A0 A1 A2 A c0 c1 c2 c O W J x t w V hO hW h hl hc hp ht hd ?_
    unfold Num.redB at hr
    rw [hd, Bool.false_or, decide_eq_true_eq] at hr
    exact hr
end Go.Proofs.Ytahmhdpgdhfjnaa
