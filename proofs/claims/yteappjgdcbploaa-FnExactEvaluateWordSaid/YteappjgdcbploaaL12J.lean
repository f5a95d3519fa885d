/- Consistency of the program: isInner; the order of the relations. -/
import Derived.Test.YteappjgdcbploaaL12I
import Derived.Test.YteappjgdcbploaaL11G
namespace Go.Proofs.Yteappjgdcbploaa
open Go.RowKit
set_option linter.unusedVariables false
set_option linter.unusedSimpArgs false

section
variable {O : List Int} {W : List (List Int)} {J : List (List (List Int))}
theorem unit_num {i j : Nat} (hij : i < j) (hj : j < O.length) : Num.numL (Num.tlL O W J (i + 1)) ((Num.unit7 O.length j).drop (i + 1)) = Num.szL (Num.tlL O W J (j + 1)) := by
  have hz : ∀ k, k < j → (Num.unit7 O.length j).getD k 0 = 0 := fun k hk => by
    unfold Num.unit7
    rw [List.getD_eq_getElem?_getD, List.getElem?_set_ne (by omega), List.getElem?_replicate, if_pos (by omega)]
    rfl
  have hd : (Num.unit7 O.length j).drop j = 1 :: Num.zer (O.length - (j + 1)) := by
    unfold Num.unit7
    rw [List.drop_set, if_neg (by omega), Nat.sub_self, List.drop_replicate, show O.length - j = (O.length - (j + 1)) + 1 by omega]
    rfl
  rw [Num.drop_pad (z := j) hz (by rw [Num.unit7_len]; omega) (by omega), num_pre _ _ _ (by rw [Num.tlL_len]; omega), Num.tlL_drop, show i + 1 + (j - (i + 1)) = j by omega, hd, Num.tlL_step hj, Num.numL_cons]
  have := Num.numL_zer (Num.tlL O W J (j + 1))
  rw [Num.tlL_len] at this
  rw [this]
  omega
end
set_option maxRecDepth 100000 in
set_option maxHeartbeats 4000000 in
theorem isInner_any {O : List Int} {W : List (List Int)} {J : List (List (List Int))} (V : Num.Val O W J) (i : Nat) (hi : i < O.length) (C : Num.Con (Num.tlL O W J (i + 1))) (t : Tw) (bm : Nat) (w0 : World) (HT : ∀ w', ChgS (fun k => k = bm) w0 w' → TwR O W J t (i + 1) w') (j : Nat) (hij : i < j) (hj : j < O.length) (w : World)
    (hc : ChgS (fun k => k = bm) w0 w) (hs : MSt O W J i t.bo bm w) :
    Calls Try.prog 167 #[.pointer (some ⟨t.tb, 0, none⟩), .int .i64 (i : Int), .int .i64 (Num.numL (Num.tlL O W J (i + 1)) ((W.getD i []).drop (i + 1))), .int .i64 (Num.szL (Num.tlL O W J (j + 1)))] w fun e w' => e = .returned (.bool (Num.bI O W J i j)) ∧ ChgS (fun k => k = bm) w w' ∧ MSt O W J i t.bo bm w' := by
  have n6 := V.n6
  have hOi := V.ok i
  rw [Num.tlL_step hi] at hOi
  have wE := V.we i (i + 1) hi
  have gE : Num.El (Num.tlL O W J (i + 1)) ((Num.unit7 O.length j).drop (i + 1)) := Num.bI_El V hj
  have hob := V.ob i hi
  have HIV : Hid (∀ a w', Num.El (Num.tlL O W J (i + 1)) a → ChgS (fun k => k = bm) w0 w' → MSt O W J i t.bo bm w' → Calls Try.prog 166 #[.pointer (some ⟨t.tb, 0, none⟩), .int .i64 (i : Int), .int .i64 (Num.numL (Num.tlL O W J (i + 1)) a)] w' fun e w'' => e = .returned (.int .i64 (Num.numL (Num.tlL O W J (i + 1)) (Num.imgL (Num.lvA O W J i) (Num.tlL O W J (i + 1)) a))) ∧ ChgS (fun k => k = bm) w' w'' ∧ MSt O W J i t.bo bm w'') := Lib.hid fun a w' ha h3 h4 => imageVec_any V i hi C t bm w0 HT a ha w' h3 h4
  have HTI : Hid (∀ a b w', Num.El (Num.tlL O W J (i + 1)) a → Num.El (Num.tlL O W J (i + 1)) b → ChgS (fun k => k = bm) w0 w' → Calls Try.prog 108 #[.pointer (some ⟨t.tb, 0, none⟩), .int .i64 (Num.numL (Num.tlL O W J (i + 1)) a), .int .i64 (Num.numL (Num.tlL O W J (i + 1)) b)] w' fun e w'' => e = .returned (.int .i64 (Num.numL (Num.tlL O W J (i + 1)) (Num.mulL (Num.tlL O W J (i + 1)) a b))) ∧ w' = w'') := Lib.hid fun a b w' ha hb h3 => times_any V (HT w' h3) (by omega) C a b ha hb
  have HCE : Hid (∀ w', ChgS (fun k => k = bm) w0 w' → TwR O W J t (i + 1) w') := Lib.hid HT
  have HIE : Hid (∀ a, Num.El (Num.tlL O W J (i + 1)) a → Num.El (Num.tlL O W J (i + 1)) (Num.imgL (Num.lvA O W J i) (Num.tlL O W J (i + 1)) a)) := Lib.hid fun a _ => Num.El.img hOi a
  have eU := unit_num (O := O) (W := W) (J := J) hij hj
  rw [← eU]
  have HRES : Hid (∀ a, a = Num.iter (Num.imgL (Num.lvA O W J i) (Num.tlL O W J (i + 1))) (O.getD i 0).toNat ((Num.unit7 O.length j).drop (i + 1)) → Num.El (Num.tlL O W J (i + 1)) a → (Num.numL (Num.tlL O W J (i + 1)) (Num.mulL (Num.tlL O W J (i + 1)) ((W.getD i []).drop (i + 1)) a) == Num.numL (Num.tlL O W J (i + 1)) (Num.mulL (Num.tlL O W J (i + 1)) ((Num.unit7 O.length j).drop (i + 1)) ((W.getD i []).drop (i + 1)))) = Num.bI O W J i j) := Lib.hid fun a e ha => by
    rw [Num.bI_at hij hj, num_eq V (Num.El.mul (V.ok _) wE ha) (Num.El.mul (V.ok _) gE wE), e]
  have HWE := Lib.hid wE
  have HGE := Lib.hid gE
  have HC0 := Lib.hid hc
  have HS0 := Lib.hid hs
  have T0 := HT w hc
  obtain ⟨tl, t0, t1, t2, t3, t4, t5, t6, t7⟩ := T0.box.c8
  obtain ⟨gO, oO, hAO, hgO, cO⟩ := T0.pres.1 i hi
  rw [hAO] at t0
  have i0 : (0 : Int) ≤ (i : Int) := by omega
  have i1 : (i : Int) < (O.length : Int) := by omega
  generalize (W.getD i []).drop (i + 1) = wv at *
  generalize (Num.unit7 O.length j).drop (i + 1) = gv at *
  generalize O.getD i 0 = oi at *
  clear T0 V C HT hOi wE gE eU hc hs
  go_enter Try.func167, Try.ntmps167
  go_wp2_with (fail)
  go_loopw [9, 19] (fun s9 s18 wr => ∃ (r : Nat) (a : List Int), s18 = .int .i64 (r : Int) ∧ (r : Int) ≤ oi ∧ s9 = .int .i64 (Num.numL (Num.tlL O W J (i + 1)) a) ∧ Hid (a = Num.iter (Num.imgL (Num.lvA O W J i) (Num.tlL O W J (i + 1))) r gv) ∧ Hid (Num.El (Num.tlL O W J (i + 1)) a) ∧ ChgS (fun k => k = bm) w wr ∧ Hid (MSt O W J i t.bo bm wr)) (fun _ s18 _ => (oi - intOf s18).toNat)
  case atStart => exact ⟨0, gv, rfl, by omega, rfl, Lib.hid rfl, HGE, ChgS.refl _ _, HS0⟩
  case round =>
    obtain ⟨r, a, rfl, hr, rfl, ha, hE, hch, hst⟩ := hrel
    have hcw := HC0.out.trans hch
    by_cases hlt : (r : Int) < oi
    · have HI := Lib.hid (HIV.out a wr hE.out hcw hst.out)
      have HA2 : Hid (Num.imgL (Num.lvA O W J i) (Num.tlL O W J (i + 1)) a = Num.iter (Num.imgL (Num.lvA O W J i) (Num.tlL O W J (i + 1))) (r + 1) gv) := Lib.hid (by rw [Num.iter_succ, ha.out])
      have HE2 := Lib.hid (HIE.out a hE.out)
      have hwr : IntKind.i64.wrap ((r : Int) + 1) = ((r + 1 : Nat) : Int) := by rw [IntWalk.i64_in _ (by omega)]; omega
      generalize Num.imgL (Num.lvA O W J i) (Num.tlL O W J (i + 1)) a = a2 at *
      generalize Num.numL (Num.tlL O W J (i + 1)) a = na at *
      clear ha hE
      go_wp2_with (fail)
      refine HI.out.mono ?_; rintro e w2 ⟨rfl, hc2, hs2⟩
      have HS2 := Lib.hid hs2
      have hcf := hch.trans hc2
      clear HI hs2 hc2
      go_wp2_with (fail)
      exact ⟨⟨r + 1, a2, rfl, by omega, rfl, HA2, HE2, hcf, HS2⟩, by simp [intOf]; omega⟩
    · have hre : r = oi.toNat := by omega
      have HR := Lib.hid (HRES.out a (by rw [ha.out, hre]) hE.out)
      have HTA := Lib.hid (HTI.out wv a wr HWE.out hE.out hcw)
      have HTB := Lib.hid (HTI.out gv wv wr HGE.out HWE.out hcw)
      clear ha hE hre HRES
      go_wp2_with (fail)
      refine HTA.out.mono ?_; rintro e w2 ⟨rfl, rfl⟩
      go_wp2_with (fail)
      refine HTB.out.mono ?_; rintro e w2 ⟨rfl, rfl⟩
      go_wp2_with (fail)
      go_ret
      exact ⟨ret_b HR.out, hch, hst.out⟩
namespace Num
variable {O : List Int} {W : List (List Int)} {J : List (List (List Int))}
theorem relsP_at : ∀ (m j : Nat), j < m → (relsP O W m)[j]? = some ⟨W.getD j [], j, j, O.getD j 0⟩
  | 0, j, h => by omega
  | m + 1, j, h => by
    rw [relsP]
    by_cases hj : j < m
    · rw [List.getElem?_append_left (by rw [relsP_len]; exact hj), relsP_at m j hj]
    · obtain rfl : j = m := by omega
      rw [List.getElem?_append_right (by rw [relsP_len]; omega), relsP_len, Nat.sub_self]
      rfl
theorem relsK_at (r : List (List Int)) (i : Nat) (o : Int) : ∀ (m k : Nat), k < m → (relsK r i o m)[k]? = some ⟨r.getD k [], (i : Int) + 1 + (k : Int), i, o⟩
  | 0, k, h => by omega
  | m + 1, k, h => by
    rw [relsK]
    by_cases hk : k < m
    · rw [List.getElem?_append_left (by rw [relsK_len]; exact hk), relsK_at r i o m k hk]
    · obtain rfl : k = m := by omega
      rw [List.getElem?_append_right (by rw [relsK_len]; omega), relsK_len, Nat.sub_self]
      rfl
/-- The relation of two generators. -/
def relC (O : List Int) (J : List (List (List Int))) (j k : Nat) : Rel := ⟨(J.getD j []).getD (k - (j + 1)) [], k, j, O.getD j 0⟩
theorem relsC_all (V : Val O W J) : ∀ (m : Nat), m ≤ O.length → ∀ j k, j < m → j < k → k < O.length → ∃ x, x < (relsC O J m).length ∧ (relsC O J m)[x]? = some (relC O J j k)
  | 0, _, j, k, h, _, _ => by omega
  | m + 1, hm, j, k, h, hjk, hk => by
    rw [relsC]
    by_cases hj : j < m
    · obtain ⟨x, h1, h2⟩ := relsC_all V m (by omega) j k hj hjk hk
      exact ⟨x, by rw [List.length_append]; omega, by rw [List.getElem?_append_left h1, h2]⟩
    · obtain rfl : j = m := by omega
      have hr := V.lr j (by omega)
      refine ⟨(relsC O J j).length + (k - (j + 1)), by rw [List.length_append, relsK_len]; omega, ?_⟩
      rw [List.getElem?_append_right (by omega), Nat.add_sub_cancel_left, relsK_at _ _ _ _ _ (by omega)]
      unfold relC
      rw [show (j : Int) + 1 + ((k - (j + 1) : Nat) : Int) = (k : Int) by omega]
theorem relsC_at (V : Val O W J) : ∀ (m : Nat), m ≤ O.length → ∀ x, x < (relsC O J m).length → ∃ j k, j < m ∧ j < k ∧ k < O.length ∧ (relsC O J m)[x]? = some (relC O J j k) ∧
    (∀ k', j < k' → k' < k → ∃ y, y < x ∧ (relsC O J m)[y]? = some (relC O J j k')) ∧ (∀ j' k', j' < j → j' < k' → k' < O.length → ∃ y, y < x ∧ (relsC O J m)[y]? = some (relC O J j' k'))
  | 0, _, x, h => by simp [relsC] at h
  | m + 1, hm, x, h => by
    have hr := V.lr m (by omega)
    by_cases hx : x < (relsC O J m).length
    · obtain ⟨j, k, h1, h2, h3, h4, h5, h6⟩ := relsC_at V m (by omega) x hx
      rw [relsC]
      have up : ∀ {y : Nat} {r : Rel}, y < x → (relsC O J m)[y]? = some r → (relsC O J m ++ relsK (J.getD m []) m (O.getD m 0) (J.getD m []).length)[y]? = some r := fun hy e => by rw [List.getElem?_append_left (by omega), e]
      refine ⟨j, k, by omega, h2, h3, by rw [List.getElem?_append_left hx, h4], fun k' a b => ?_, fun j' k' a b c => ?_⟩
      · obtain ⟨y, y1, y2⟩ := h5 k' a b; exact ⟨y, y1, up y1 y2⟩
      · obtain ⟨y, y1, y2⟩ := h6 j' k' a b c; exact ⟨y, y1, up y1 y2⟩
    · rw [relsC] at h ⊢
      rw [List.length_append, relsK_len] at h
      have at' : ∀ k', m < k' → k' < O.length → (relsC O J m ++ relsK (J.getD m []) m (O.getD m 0) (J.getD m []).length)[(relsC O J m).length + (k' - (m + 1))]? = some (relC O J m k') := fun k' a b => by
        rw [List.getElem?_append_right (by omega), Nat.add_sub_cancel_left, relsK_at _ _ _ _ _ (by omega)]
        unfold relC
        rw [show (m : Int) + 1 + ((k' - (m + 1) : Nat) : Int) = (k' : Int) by omega]
      obtain ⟨k, hk⟩ : ∃ k, k = m + 1 + (x - (relsC O J m).length) := ⟨_, rfl⟩
      have e := at' k (by omega) (by omega)
      rw [show (relsC O J m).length + (k - (m + 1)) = x by omega] at e
      refine ⟨m, k, by omega, by omega, by omega, e, fun k' a b => ⟨(relsC O J m).length + (k' - (m + 1)), by omega, at' k' a (by omega)⟩, fun j' k' a b c => ?_⟩
      obtain ⟨y, y1, y2⟩ := relsC_all V m (by omega) j' k' (by omega) b c
      exact ⟨y, by omega, by rw [List.getElem?_append_left y1, y2]⟩
/-- What a relation asks at a level. -/
def relOk (O : List Int) (W : List (List Int)) (J : List (List (List Int))) (i : Nat) (r : Rel) : Bool := if r.g = r.b then bP O W J i r.b.toNat else bC O W J i r.b.toNat r.g.toNat
theorem relOk_P (i j : Nat) : relOk O W J i ⟨W.getD j [], j, j, O.getD j 0⟩ = bP O W J i j := by unfold relOk; rw [if_pos rfl]; rfl
theorem relOk_C (i j k : Nat) (h : j < k) : relOk O W J i (relC O J j k) = bC O W J i j k := by
  unfold relOk relC
  rw [if_neg (by show ¬ (k : Int) = (j : Int); omega)]
  rfl
/-- Each relation is one of a generator's power, or of two generators; those ahead of it are known. -/
theorem rels_at (V : Val O W J) {i x : Nat} (hx : x < (rels O W J).length) (hq : ∀ y, y < x → ∀ r, (rels O W J)[y]? = some r → (i : Int) < r.b → relOk O W J i r = true) :
    (∃ j, j < O.length ∧ (rels O W J)[x]? = some ⟨W.getD j [], j, j, O.getD j 0⟩ ∧ ∀ k, i < k → k < j → bP O W J i k = true) ∨
    (∃ j k, j < k ∧ k < O.length ∧ (rels O W J)[x]? = some (relC O J j k) ∧ (∀ k, i < k → k < O.length → bP O W J i k = true) ∧ (i < j → ∀ k', j < k' → k' < k → bC O W J i j k' = true) ∧ (∀ j', i < j' → j' < j → ∀ k', j' < k' → k' < O.length → bC O W J i j' k' = true)) := by
  unfold rels at hx hq ⊢
  by_cases h : x < O.length
  · refine .inl ⟨x, h, by rw [List.getElem?_append_left (by rw [relsP_len]; exact h), relsP_at _ _ h], fun k h1 h2 => ?_⟩
    have := hq k h2 _ (by rw [List.getElem?_append_left (by rw [relsP_len]; omega), relsP_at _ k (by omega)]) (by show (i : Int) < (k : Int); omega)
    rwa [relOk_P] at this
  · rw [List.length_append, relsP_len] at hx
    obtain ⟨j, k, h1, h2, h3, h4, h5, h6⟩ := relsC_at V O.length (Nat.le_refl _) (x - O.length) (by omega)
    have up : ∀ {y : Nat} {r : Rel}, (relsC O J O.length)[y]? = some r → (relsP O W O.length ++ relsC O J O.length)[O.length + y]? = some r := fun e => by
      rw [List.getElem?_append_right (by rw [relsP_len]; omega), relsP_len, Nat.add_sub_cancel_left, e]
    have h4' := up h4
    rw [show O.length + (x - O.length) = x by omega] at h4'
    refine .inr ⟨j, k, h2, h3, h4', fun k h7 h8 => ?_, fun hij k' h7 h8 => ?_, fun j' h7 h8 k' h9 h10 => ?_⟩
    · have := hq k (by omega) _ (by rw [List.getElem?_append_left (by rw [relsP_len]; omega), relsP_at _ k (by omega)]) (by show (i : Int) < (k : Int); omega)
      rwa [relOk_P] at this
    · obtain ⟨y, y1, y2⟩ := h5 k' h7 h8
      have := hq (O.length + y) (by omega) _ (up y2) (by show (i : Int) < (j : Int); omega)
      rwa [relOk_C _ _ _ h7] at this
    · obtain ⟨y, y1, y2⟩ := h6 j' k' h8 h9 h10
      have := hq (O.length + y) (by omega) _ (up y2) (by show (i : Int) < (j' : Int); omega)
      rwa [relOk_C _ _ _ h9] at this
theorem rels_end (V : Val O W J) {i : Nat} (hq : ∀ y, y < (rels O W J).length → ∀ r, (rels O W J)[y]? = some r → (i : Int) < r.b → relOk O W J i r = true) :
    (∀ k, i < k → k < O.length → bP O W J i k = true) ∧ ∀ j k, i < j → j < k → k < O.length → bC O W J i j k = true := by
  unfold rels at hq
  refine ⟨fun k h1 h2 => ?_, fun j k h1 h2 h3 => ?_⟩
  · have := hq k (by rw [List.length_append, relsP_len]; omega) _ (by rw [List.getElem?_append_left (by rw [relsP_len]; omega), relsP_at _ k h2]) (by show (i : Int) < (k : Int); omega)
    rwa [relOk_P] at this
  · obtain ⟨y, y1, y2⟩ := relsC_all V O.length (Nat.le_refl _) j k (by omega) h2 h3
    have := hq (O.length + y) (by rw [List.length_append, relsP_len]; omega) _ (by rw [List.getElem?_append_right (by rw [relsP_len]; omega), relsP_len, Nat.add_sub_cancel_left, y2]) (by show (i : Int) < (j : Int); omega)
    rwa [relOk_C _ _ _ h2] at this
end Num
end Go.Proofs.Yteappjgdcbploaa
