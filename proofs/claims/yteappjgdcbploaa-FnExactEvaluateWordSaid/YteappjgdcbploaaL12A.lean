/- Consistency: the model's l08Image and l08At, by one induction on the tails. -/
import Derived.Test.YteappjgdcbploaaNumTx
import Derived.Test.YteappjgdcbploaaL11M
import Derived.StillTailTactics
import Derived.BigQuiet
namespace Go.Proofs.Yteappjgdcbploaa
open Go.RowKit
set_option linter.unusedVariables false
set_option linter.unusedSimpArgs false

namespace Num
variable {O : List Int} {W : List (List Int)} {J : List (List (List Int))}
theorem pad_drop (i : Nat) (u : List Int) : (zer i ++ u).drop i = u := by
  rw [List.drop_append_of_le_length (by simp)]
  simp [zer]
/-- A zero vector's part. -/
theorem rep_pad {n i : Nat} (h : i ≤ n) : List.replicate n (0 : Int) = zer i ++ zer (n - i) := by
  unfold zer
  rw [List.replicate_append_replicate]
  congr 1
  omega
theorem app_zero {α : Type} (m : α → α → α) (out : α) (x : Int) (xs : List Int) (c : α) (cs : List α) (h : x ≤ 0) : app m out (x :: xs) (c :: cs) = app m out xs cs := by
  rw [app, show x.toNat = 0 by omega]
  rfl
theorem app_one {α : Type} (m : α → α → α) (out : α) (x : Int) (xs : List Int) (c : α) (cs : List α) (h : 0 < x) : app m out (x :: xs) (c :: cs) = app m (m out c) ((x - 1) :: xs) (c :: cs) := by
  rw [app, app, show x.toNat = (x - 1).toNat + 1 by omega]
  rfl
/-- What the conjugates of a level are. -/
theorem lvA_cj (i k : Nat) (h : k < (J.getD i []).length) : (lvA O W J i).cj.drop k = ((J.getD i []).getD k []).drop (i + 1) :: (lvA O W J i).cj.drop (k + 1) := by
  have hl : k < (lvA O W J i).cj.length := by
    show k < ((J.getD i []).map _).length
    simpa using h
  rw [List.drop_eq_getElem_cons hl]
  congr 1
  have e : (lvA O W J i).cj[k]? = ((J.getD i []).map (·.drop (i + 1)))[k]? := rfl
  rw [List.getElem?_eq_getElem hl, List.getElem?_map, List.getElem?_eq_getElem h] at e
  rw [List.getD_eq_getElem?_getD, List.getElem?_eq_getElem h]
  exact Option.some.inj e
/-- The vectors of the model's results. -/
def atV (O : List Int) (W : List (List Int)) (J : List (List (List Int))) (i : Nat) (a b : List Int) : List Int := zer i ++ mulL (tlL O W J i) (a.drop i) (b.drop i)
def imgV (O : List Int) (W : List (List Int)) (J : List (List (List Int))) (i : Nat) (x : List Int) : List Int := zer (i + 1) ++ imgL (lvA O W J i) (tlL O W J (i + 1)) (x.drop (i + 1))
theorem pad_len {i : Nat} (h6 : OkL (tlL O W J i)) {u : List Int} (h : El (tlL O W J i) u) (hi : i ≤ O.length) : (zer i ++ u).length = O.length := by
  rw [List.length_append, zer_len, h.len, tlL_len]; omega
/-- What is known of a valid presentation. -/
structure Val (O : List Int) (W : List (List Int)) (J : List (List (List Int))) : Prop where
  n6 : O.length ≤ 6
  lw : W.length = O.length
  lj : J.length = O.length
  lr : ∀ i, i < O.length → (J.getD i []).length = O.length - 1 - i
  ob : ∀ i, i < O.length → 2 ≤ O.getD i 0 ∧ O.getD i 0 ≤ 7
  wl : ∀ i, i < O.length → (W.getD i []).length = O.length
  we : ∀ i k, i < O.length → El (tlL O W J k) ((W.getD i []).drop k)
  wz : ∀ i k, i < O.length → k ≤ i → (W.getD i []).getD k 0 = 0
  cl : ∀ i k, i < O.length → k < O.length - 1 - i → ((J.getD i []).getD k []).length = O.length
  ce : ∀ i k z, i < O.length → k < O.length - 1 - i → El (tlL O W J z) (((J.getD i []).getD k []).drop z)
  cz : ∀ i k j, i < O.length → k < O.length - 1 - i → j ≤ i → ((J.getD i []).getD k []).getD j 0 = 0
  ok : ∀ i, OkL (tlL O W J i)
theorem Val.of (h : preB O W J = true) : Val O W J := by
  have h0 := h
  obtain ⟨ho, hw, hj, hW, hJ⟩ := preB_out h
  obtain ⟨h6, hg, _⟩ := ordC_zero ho
  have hfW : ∀ i, i < O.length → _ := fun i hi => fitB_out (hW i hi)
  have hfJ : ∀ i k, i < O.length → k < O.length - 1 - i → fitB O ((J.getD i []).getD k []) (i + 1) = true := fun i k hi hk => by
    obtain ⟨c1, c2⟩ := conB_out (hJ i hi)
    exact c2 k (by rw [c1]; exact hk)
  refine ⟨h6, hw, hj, fun i hi => (conB_out (hJ i hi)).1, fun i hi => gpsB_at hg hi, fun i hi => (hfW i hi).1, fun i k hi => El.fit (hW i hi), fun i k hi hk => ((hfW i hi).2 k (by rw [(hfW i hi).1]; omega)).2.2 (by omega),
    fun i k hi hk => (fitB_out (hfJ i k hi hk)).1, fun i k z hi hk => El.fit (hfJ i k hi hk), fun i k j hi hk hj => ((fitB_out (hfJ i k hi hk)).2 j (by rw [(fitB_out (hfJ i k hi hk)).1]; omega)).2.2 (by omega), fun i => OkL.of h0 _ i rfl⟩
end Num

section
variable (A0 A1 A2 : Option Addr) (c0 c1 c2 : Nat) (O : List Int) (W : List (List Int)) (J : List (List (List Int)))
/-- The presentation as it is handed on. -/
def RdP (w : World) : Prop := RdI w A0 O ∧ RdW w A1 W ∧ RdX w A2 J
abbrev prV : Value := .agg #[.slice A0 O.length c0, .slice A1 O.length c1, .slice A2 O.length c2]
/-- A vector of a tail, in new memory. -/
def VecOut (xs : List Int) (w : World) (e : Ending) (w' : World) : Prop := ∃ A c, e = .returned (.slice A O.length c) ∧ RdI w' A xs ∧ Below w.heap.size w w'
/-- .. of its own. -/
def VecO (xs : List Int) (w : World) (e : Ending) (w' : World) : Prop := ∃ A c, e = .returned (.slice A O.length c) ∧ OwnI w' w.heap.size (.slice A O.length c) xs ∧ Below w.heap.size w w'
def AtOkO (i : Nat) : Prop := ∀ (w : World) (a b : List Int) (A B : Option Addr) (ca cb : Nat), RdP A0 A1 A2 O W J w → RdI w A a → RdI w B b → a.length = O.length → b.length = O.length → Num.El (Num.tlL O W J i) (a.drop i) → Num.El (Num.tlL O W J i) (b.drop i) →
  Calls Try.prog 107 #[prV A0 A1 A2 c0 c1 c2 O, .int .i64 (i : Int), .slice A O.length ca, .slice B O.length cb] w (VecO O (Num.atV O W J i a b) w)
def AtOk (i : Nat) : Prop := ∀ (w : World) (a b : List Int) (A B : Option Addr) (ca cb : Nat), RdP A0 A1 A2 O W J w → RdI w A a → RdI w B b → a.length = O.length → b.length = O.length → Num.El (Num.tlL O W J i) (a.drop i) → Num.El (Num.tlL O W J i) (b.drop i) →
  Calls Try.prog 107 #[prV A0 A1 A2 c0 c1 c2 O, .int .i64 (i : Int), .slice A O.length ca, .slice B O.length cb] w (VecOut O (Num.atV O W J i a b) w)
def ImgOk (i : Nat) : Prop := ∀ (w : World) (x : List Int) (A : Option Addr) (ca : Nat), RdP A0 A1 A2 O W J w → RdI w A x → x.length = O.length → Num.El (Num.tlL O W J (i + 1)) (x.drop (i + 1)) →
  Calls Try.prog 138 #[prV A0 A1 A2 c0 c1 c2 O, .int .i64 (i : Int), .slice A O.length ca] w (VecOut O (Num.imgV O W J i x) w)
end

set_option maxRecDepth 100000 in
set_option maxHeartbeats 4000000 in
theorem sImg_of {A0 A1 A2 : Option Addr} {c0 c1 c2 : Nat} {O : List Int} {W : List (List Int)} {J : List (List (List Int))} (V : Num.Val O W J) (i : Nat) (hi : i < O.length) (HAt : AtOk A0 A1 A2 c0 c1 c2 O W J (i + 1)) : ImgOk A0 A1 A2 c0 c1 c2 O W J i := by
  intro w x X cx hP hX hxl hxe
  obtain ⟨iT, hiT, hz0, hz1, hz2⟩ := info_parts infoI
  have n6 := V.n6
  have HV := Lib.hid V
  have HA := Lib.hid HAt
  have b0 : Below w.heap.size w (w.alloc (.cells #[.slice A0 O.length c0, .slice A1 O.length c1, .slice A2 O.length c2] 29)) := by go_grown
  have BX := (Blk.new w [.slice A0 O.length c0, .slice A1 O.length c1, .slice A2 O.length c2] 29).c3
  have HPW : Hid (∀ w', Below w.heap.size w w' → RdP A0 A1 A2 O W J w' ∧ RdI w' X x) := Lib.hid fun w' hb => ⟨⟨hP.1.below' hb, hP.2.1.below' hb, hP.2.2.below' hb⟩, hX.below' hb⟩
  have HXE := Lib.hid hxe
  have hiw : IntKind.i64.wrap ((i : Int) + 1) = (i : Int) + 1 := IntWalk.i64_in _ (by omega)
  clear hP hX hxe HAt V
  generalize hW0 : (w.alloc (.cells #[.slice A0 O.length c0, .slice A1 O.length c1, .slice A2 O.length c2] 29)) = W0 at *
  obtain ⟨bl, bx0, bx1, bx2⟩ := BX
  have z0 := b0.size
  have HXL := Lib.hid hxl
  clear hxl
  unfold VecOut
  go_enter Try.func138, Try.ntmps138
  go_wp2_with (first | (at_make; refine wpList_make_full _ rfl (.tmp 14) (.tmp 14) 22 rfl w.heap.size 2 iT (.int .i64 0) 1 Try.underlying22 hiT hz0 hz1 .i64 .i64 (O.length : Int) (O.length : Int) O.length rfl rfl rfl rfl (by rw [hz2]; omega) (by unfold maxLen; omega) z0 ?_; intro w1 own1 gr1; have o1 := madeZ own1))
  have B1 : Below w.heap.size w w1 := b0.grown gr1 z0 (fun k hk => by simp at hk)
  have BL1 : Below W0.heap.size W0 w1 := (Below.refl _ _).grown gr1 (Nat.le_refl _) (fun k hk => by simp at hk)
  have R1 := Lib.hid o1.reads
  clear own1 gr1 o1
  have hz1' := B1.size
  have hw1 : w.heap.size < w1.heap.size := Nat.lt_of_lt_of_le bl BL1.size
  go_loopw [9, 8] (fun s9 s8 wr => ∃ (j : Nat) (u : List Int) (A : Option Addr) (c : Nat), s9 = .int .i64 (j : Int) ∧ s8 = .slice A O.length c ∧ i + 1 ≤ j ∧ j ≤ O.length ∧ Hid (RdI wr A (Num.zer (i + 1) ++ u)) ∧ Hid (Num.El (Num.tlL O W J (i + 1)) u) ∧
    Hid (Num.app (Num.mulL (Num.tlL O W J (i + 1))) u (x.drop j) ((Num.lvA O W J i).cj.drop (j - (i + 1))) = Num.imgL (Num.lvA O W J i) (Num.tlL O W J (i + 1)) (x.drop (i + 1))) ∧ Below W0.heap.size W0 wr ∧ Below w.heap.size w wr) (fun s9 _ _ => O.length - (intOf s9).toNat)
  case atStart =>
    refine ⟨i + 1, Num.zer (O.length - (i + 1)), _, _, by go_num, rfl, by omega, by omega, Lib.hid ?_, Lib.hid ?_, Lib.hid ?_, BL1, B1⟩
    · rw [← Num.rep_pad (by omega)]; exact R1.out
    · have := Num.zer_El (HV.out.ok (i + 1)); rwa [Num.tlL_len] at this
    · rw [Nat.sub_self]; show Num.app _ (Num.zer _) _ _ = Num.app _ (Num.zer _) _ _; rw [Num.tlL_len]; rfl
  case round =>
    clear BL1 B1 R1 hz1' hw1
    obtain ⟨j, u, A, c, rfl, rfl, hj0, hj, hR, hE, hT, bl0, blw⟩ := hrel
    by_cases hlt : j < O.length
    · have i1 : (j : Int) < (O.length : Int) := by omega
      have i0 : (0 : Int) ≤ (j : Int) := by omega
      have ii0 : (0 : Int) ≤ (i : Int) := by omega
      have ii1 : (i : Int) < (O.length : Int) := by omega
      have hxj : x.drop j = x.getD j 0 :: x.drop (j + 1) := by
        have hxl := HXL.out
        rw [List.drop_eq_getElem_cons (by omega), List.getD_eq_getElem?_getD, List.getElem?_eq_getElem (by omega)]; rfl
      have hbd : 0 ≤ x.getD j 0 ∧ x.getD j 0 ≤ 7 := by
        have := Num.El.at _ (i + 1) rfl HXE.out (j - (i + 1)) (by omega)
        have h7 := HV.out.ob j hlt
        rw [show i + 1 + (j - (i + 1)) = j by omega] at this
        rw [List.getD_eq_getElem?_getD, List.getElem?_drop, show i + 1 + (j - (i + 1)) = j by omega, ← List.getD_eq_getElem?_getD] at this
        omega
      obtain ⟨k, hk⟩ : ∃ k, k = j - (i + 1) := ⟨_, rfl⟩
      have hcj := Num.lvA_cj (O := O) (W := W) (J := J) i k (by rw [HV.out.lr i hi]; omega)
      have hk1 : j + 1 - (i + 1) = k + 1 := by omega
      rw [← hk, hxj, hcj] at hT
      have HK := Lib.hid hk
      have hkb : k < O.length - 1 - i := by omega
      clear hk
      have hce : Hid (∀ z, Num.El (Num.tlL O W J z) (((J.getD i []).getD k []).drop z)) := Lib.hid fun z => HV.out.ce i k z hi hkb
      have hcl : ((J.getD i []).getD k []).length = O.length := by have := HV.out.cl i k hi hkb; exact this
      have HCL := Lib.hid hcl
      have hrl : (J.getD i []).length = O.length - 1 - i := by have := HV.out.lr i hi; exact this
      have hjl : J.length = O.length := by have := HV.out.lj; exact this
      have HRL := Lib.hid hrl
      have HJL := Lib.hid hjl
      clear hcj hcl hrl hjl
      have HT0 := Lib.hid hk1
      clear hk1
      generalize hcc : ((J.getD i []).getD k []).drop (i + 1) = cc at *
      generalize hcs : (Num.lvA O W J i).cj.drop (k + 1) = cs at *
      generalize hxr : x.drop (j + 1) = xr at *
      have HXR := Lib.hid hxr
      have HCS := Lib.hid hcs
      have HCC := Lib.hid hcc
      clear hxr hcs hcc hxj
      generalize hy : x.getD j 0 = y at *
      have HY := Lib.hid hy
      clear hy
      go_wp2_with (fail)
      go_loopw [10, 8] (fun s10 s8 wr => ∃ (t : Int) (u : List Int) (A : Option Addr) (c : Nat), s10 = .int .i64 t ∧ s8 = .slice A O.length c ∧ 0 ≤ t ∧ t ≤ y ∧ Hid (RdI wr A (Num.zer (i + 1) ++ u)) ∧ Hid (Num.El (Num.tlL O W J (i + 1)) u) ∧
        Hid (Num.app (Num.mulL (Num.tlL O W J (i + 1))) u ((y - t) :: xr) (cc :: cs) = Num.imgL (Num.lvA O W J i) (Num.tlL O W J (i + 1)) (x.drop (i + 1))) ∧ Below W0.heap.size W0 wr ∧ Below w.heap.size w wr) (fun s10 _ _ => (y - intOf s10).toNat)
      case atStart => exact ⟨0, u, A, c, rfl, rfl, by omega, by omega, hR, hE, Lib.hid (by rw [Int.sub_zero]; exact hT.out), bl0, blw⟩
      case round =>
        clear hR hE hT bl0 blw
        obtain ⟨t, u, A, c, rfl, rfl, ht0, ht, hR, hE, hT, bl0, blw⟩ := hrel
        obtain ⟨hPr, hXr⟩ := HPW.out _ blw
        obtain ⟨gx, ox, rfl, hgx, hcx⟩ := hXr j (by rw [HXL.out]; exact hlt)
        rw [HY.out] at hcx
        by_cases htl : t < y
        · obtain ⟨g2, o2, B2, d2, rfl, hg2, hc2, hl2, hr2⟩ := hPr.2.2 i (by rw [HJL.out]; exact hi)
          obtain ⟨g3, o3, B3, d3, rfl, hg3, hc3, hl3, hr3⟩ := hr2 k (by rw [HRL.out]; omega)
          have y0 : wr.cell? ⟨w.heap.size, 0, none⟩ = some (.slice A0 O.length c0) := by rw [bl0.cell bl]; exact bx0
          have y1 : wr.cell? ⟨w.heap.size, 1, none⟩ = some (.slice A1 O.length c1) := by rw [bl0.cell bl]; exact bx1
          have y2 : wr.cell? ⟨w.heap.size, 2, none⟩ = some (.slice (some ⟨g2, o2, none⟩) O.length c2) := by rw [bl0.cell bl]; exact bx2
          have hw1 : IntKind.i64.wrap ((j : Int) - (i : Int)) = (j : Int) - (i : Int) := IntWalk.i64_in _ (by omega)
          have hw2 : IntKind.i64.wrap ((j : Int) - (i : Int) - 1) = (k : Int) := by have := HK.out; rw [IntWalk.i64_in _ (by omega)]; omega
          have k0 : (0 : Int) ≤ (k : Int) := by omega
          have k1 : (k : Int) < ((J.getD i []).length : Int) := by have := HRL.out; omega
          rw [HCL.out] at hc3
          have HC : Hid (∀ W', Below wr.heap.size wr W' → Calls Try.prog 107 #[.agg #[.slice A0 O.length c0, .slice A1 O.length c1, .slice (some ⟨g2, o2, none⟩) O.length c2], .int .i64 ((i : Int) + 1), .slice A O.length c, .slice B3 O.length d3] W' (fun e w' => ∃ A' c', e = .returned (.slice A' O.length c') ∧ RdI w' A' (Num.zer (i + 1) ++ Num.mulL (Num.tlL O W J (i + 1)) u cc) ∧ Below W'.heap.size W' w')) := Lib.hid (by
            intro W' hb
            have hlen : (Num.zer (i + 1) ++ u).length = O.length := Num.pad_len (HV.out.ok _) hE.out (by omega)
            have := HA.out W' (Num.zer (i + 1) ++ u) ((J.getD i []).getD k []) A B3 c d3 ⟨hPr.1.below' hb, hPr.2.1.below' hb, hPr.2.2.below' hb⟩ (hR.out.below' hb) (hr3.below' hb) hlen HCL.out (by rw [Num.pad_drop]; exact hE.out) (hce.out _)
            unfold VecOut Num.atV at this
            rw [Num.pad_drop, HCC.out] at this
            simpa using this)
          have HE2 : Hid (Num.El (Num.tlL O W J (i + 1)) (Num.mulL (Num.tlL O W J (i + 1)) u cc)) := Lib.hid (Num.El.mul (HV.out.ok _) hE.out (by rw [← HCC.out]; exact hce.out _))
          have HT2 : Hid (Num.app (Num.mulL (Num.tlL O W J (i + 1))) (Num.mulL (Num.tlL O W J (i + 1)) u cc) ((y - (t + 1)) :: xr) (cc :: cs) = Num.imgL (Num.lvA O W J i) (Num.tlL O W J (i + 1)) (x.drop (i + 1))) := Lib.hid (by
            rw [← hT.out, Num.app_one _ u (y - t) xr cc cs (by omega), show y - t - 1 = y - (t + 1) by omega])
          have hw3 : IntKind.i64.wrap (t + 1) = t + 1 := IntWalk.i64_in _ (by omega)
          clear hR hE hT hPr hXr hr2 hr3 hg2 hg3 hl2 hl3
          generalize Num.mulL (Num.tlL O W J (i + 1)) u cc = u2 at *
          generalize hjj : J.getD i [] = r at *
          go_wp2_with (fail)
          go_still_tail 15, (by kernel_rfl)
          change wpList _ _ _ _ _ wr.drew
          have bd : Below wr.heap.size wr wr.drew := (Below.refl _ _).drew
          have HC2 := Lib.hid (HC.out _ bd)
          generalize hWD : wr.drew = wd at *
          clear hWD
          go_wp2_with (fail)
          refine HC2.out.mono ?_; rintro e w2 ⟨A', c', rfl, hR', hb2⟩
          have L0 : Below W0.heap.size W0 w2 := bstep (bstep bl0 bl0.size bd) (Nat.le_trans bl0.size bd.size) hb2
          have L1 : Below w.heap.size w w2 := bstep (bstep blw blw.size bd) (Nat.le_trans blw.size bd.size) hb2
          have HR2 := Lib.hid hR'
          clear hR' hb2 HC2 HC
          go_wp2_with (fail)
          exact ⟨⟨t + 1, u2, A', c', rfl, rfl, by omega, by omega, HR2, HE2, HT2, L0, L1⟩, by simp [intOf]; omega⟩
        · have htl' : ¬ (t < y) := htl
          have HT2 : Hid (Num.app (Num.mulL (Num.tlL O W J (i + 1))) u xr cs = Num.imgL (Num.lvA O W J i) (Num.tlL O W J (i + 1)) (x.drop (i + 1))) := Lib.hid (by
            rw [← hT.out, Num.app_zero _ u (y - t) xr cc cs (by omega)])
          have HT3 : Hid (Num.app (Num.mulL (Num.tlL O W J (i + 1))) u (x.drop (j + 1)) ((Num.lvA O W J i).cj.drop (j + 1 - (i + 1))) = Num.imgL (Num.lvA O W J i) (Num.tlL O W J (i + 1)) (x.drop (i + 1))) := Lib.hid (by
            rw [HXR.out, HT0.out, HCS.out]; exact HT2.out)
          have hwj : IntKind.i64.wrap ((j : Int) + 1) = (j : Int) + 1 := IntWalk.i64_in _ (by omega)
          clear hT HT2
          go_wp2_with (fail)
          exact ⟨⟨j + 1, u, A, c, by go_num, rfl, by omega, by omega, hR, hE, HT3, bl0, blw⟩, by simp [intOf]; omega⟩
    · have hge : ¬ ((j : Int) < (O.length : Int)) := by omega
      have HU : Hid (Num.zer (i + 1) ++ u = Num.imgV O W J i x) := Lib.hid (by
        have := hT.out
        rw [List.drop_of_length_le (by rw [HXL.out]; omega)] at this
        unfold Num.imgV
        rw [← this]
        unfold Num.app
        rfl)
      clear hT hE
      go_wp2_with (fail)
      go_ret
      exact ⟨A, ⟨c, rfl⟩, by rw [← HU.out]; exact hR.out, blw⟩

namespace Num
theorem set_pad (i : Nat) (u : List Int) (c : Int) : (zer (i + 1) ++ u).set i c = zer i ++ c :: u := by
  unfold zer
  rw [List.replicate_succ', List.append_assoc, List.set_append_right _ _ (by simp)]
  simp
theorem drop_set (l : List Int) (i : Nat) (c : Int) : (l.set i c).drop (i + 1) = l.drop (i + 1) := by
  rw [List.drop_set]
  simp
theorem drop_at {l : List Int} {i : Nat} (h : i < l.length) : l.drop i = l.getD i 0 :: l.drop (i + 1) := by
  rw [List.drop_eq_getElem_cons h, List.getD_eq_getElem?_getD, List.getElem?_eq_getElem h]; rfl
end Num
theorem ownI_first {w : World} {base n : Nat} {v : Value} {xs : List Int} (h : OwnI w base v xs) (hx : 0 < xs.length) (hn : xs.length = n) : ∃ g d, v = .slice (some ⟨g, 0, none⟩) n d ∧ g < w.heap.size ∧ base ≤ g := by
  subst hn
  have h9 := h.2
  rcases h9 with ⟨hv, h0⟩ | ⟨g, c, cur, hv, hb, hg, r⟩
  · omega
  · exact ⟨g, c, hv, (World.ownsRow.lt h g (by rw [hv]; rfl)).2, hb⟩
theorem ownI_other {w : World} {base : Nat} {v : Value} {xs : List Int} (h : OwnI w base v xs) (p : Addr) (u : Value) (hp : ∀ k, v.ownBlock = some k → k ≠ p.block) : OwnI (w.setCell p u) base v xs :=
  ownsRow_keep h fun k e => (ChgS.set w p u).block k (World.ownsRow.lt h k e).2 (hp k e)
set_option maxRecDepth 100000 in
set_option maxHeartbeats 4000000 in
theorem sAt_end {A0 A1 A2 : Option Addr} {c0 c1 c2 : Nat} {O : List Int} {W : List (List Int)} {J : List (List (List Int))} (V : Num.Val O W J) (i : Nat) (hi : i = O.length) : AtOkO A0 A1 A2 c0 c1 c2 O W J i := by
  intro w a b A B ca cb hP hA hB hal hbl hae hbe
  obtain ⟨iT, hiT, hz0, hz1, hz2⟩ := info_parts infoI
  have n6 := V.n6
  have b0 : Below w.heap.size w (w.alloc (.cells #[.slice A0 O.length c0, .slice A1 O.length c1, .slice A2 O.length c2] 29)) := by go_grown
  have BX := (Blk.new w [.slice A0 O.length c0, .slice A1 O.length c1, .slice A2 O.length c2] 29).c3
  have q1 : (O.length : Int) ≤ (i : Int) := by omega
  have HU : Hid (List.replicate O.length 0 = Num.atV O W J i a b) := Lib.hid (by
    unfold Num.atV
    rw [Num.tlL_end (by omega), hi]
    simp [Num.mulL, Num.zer])
  clear hP hA hB hal hbl hae hbe V
  generalize hW0 : (w.alloc (.cells #[.slice A0 O.length c0, .slice A1 O.length c1, .slice A2 O.length c2] 29)) = W0 at *
  obtain ⟨bl, bx0, bx1, bx2⟩ := BX
  have z0 := b0.size
  unfold VecO
  go_enter Try.func107, Try.ntmps107
  go_wp2_with (first | (at_make; refine wpList_make_full _ rfl (.tmp 22) (.tmp 22) 22 rfl w.heap.size 2 iT (.int .i64 0) 1 Try.underlying22 hiT hz0 hz1 .i64 .i64 (O.length : Int) (O.length : Int) O.length rfl rfl rfl rfl (by rw [hz2]; omega) (by unfold maxLen; omega) z0 ?_; intro w1 own1 gr1; have o1 := madeZ own1))
  have B1 : Below w.heap.size w w1 := b0.grown gr1 z0 (fun k hk => by simp at hk)
  go_ret
  exact ⟨_, _, rfl, by rw [← HU.out]; exact o1, B1⟩
set_option maxRecDepth 100000 in
set_option maxHeartbeats 4000000 in
theorem sAt_of {A0 A1 A2 : Option Addr} {c0 c1 c2 : Nat} {O : List Int} {W : List (List Int)} {J : List (List (List Int))} (V : Num.Val O W J) (i : Nat) (hi : i < O.length) (HImg : ImgOk A0 A1 A2 c0 c1 c2 O W J i) (HAt : AtOk A0 A1 A2 c0 c1 c2 O W J (i + 1)) : AtOkO A0 A1 A2 c0 c1 c2 O W J i := by
  intro w a b A B ca cb hP hA hB hal hbl hae hbe
  have n6 := V.n6
  have HV := Lib.hid V
  have HA := Lib.hid HAt
  have HI := Lib.hid HImg
  have b0 : Below w.heap.size w (w.alloc (.cells #[.slice A0 O.length c0, .slice A1 O.length c1, .slice A2 O.length c2] 29)) := by go_grown
  have BX := (Blk.new w [.slice A0 O.length c0, .slice A1 O.length c1, .slice A2 O.length c2] 29).c3
  have HPW : Hid (∀ w', Below w.heap.size w w' → RdP A0 A1 A2 O W J w' ∧ RdI w' A a ∧ RdI w' B b) := Lib.hid fun w' hb => ⟨⟨hP.1.below' hb, hP.2.1.below' hb, hP.2.2.below' hb⟩, hA.below' hb, hB.below' hb⟩
  have HAL := Lib.hid hal
  have HBL := Lib.hid hbl
  have HAE := Lib.hid hae
  have HBE := Lib.hid hbe
  have q1 : ¬ (O.length : Int) ≤ (i : Int) := by omega
  have i0 : (0 : Int) ≤ (i : Int) := by omega
  have i1 : (i : Int) < (O.length : Int) := by omega
  have hiw : IntKind.i64.wrap ((i : Int) + 1) = (i : Int) + 1 := IntWalk.i64_in _ (by omega)
  have HS1 : Hid (∀ W', RdI W' A a → Calls Try.prog 132 #[.slice A O.length ca] W' fun e w' => ∃ v, e = .returned v ∧ OwnI w' W'.heap.size v a ∧ Below W'.heap.size W' w') := Lib.hid fun W' h => sOwnI_any A O.length ca a W' h hal (by omega)
  have HS2 : Hid (∀ W', RdI W' B b → Calls Try.prog 132 #[.slice B O.length cb] W' fun e w' => ∃ v, e = .returned v ∧ OwnI w' W'.heap.size v b ∧ Below W'.heap.size W' w') := Lib.hid fun W' h => sOwnI_any B O.length cb b W' h hbl (by omega)
  have hab := Num.El.at _ i rfl hae 0 (by omega)
  have hbb := Num.El.at _ i rfl hbe 0 (by omega)
  have ho7 := V.ob i hi
  rw [Nat.add_zero, List.getD_eq_getElem?_getD, List.getElem?_drop, Nat.add_zero, ← List.getD_eq_getElem?_getD] at hab hbb
  have hda := Num.drop_at (l := a) (i := i) (by omega)
  have hdb := Num.drop_at (l := b) (i := i) (by omega)
  have hae1 : Num.El (Num.tlL O W J (i + 1)) (a.drop (i + 1)) := by
    rw [hda, Num.tlL_step hi] at hae
    obtain ⟨x, a', e, -, -, h⟩ := hae
    rw [(List.cons.inj e).2]; exact h
  have hbe1 : Num.El (Num.tlL O W J (i + 1)) (b.drop (i + 1)) := by
    rw [hdb, Num.tlL_step hi] at hbe
    obtain ⟨x, a', e, -, -, h⟩ := hbe
    rw [(List.cons.inj e).2]; exact h
  have HEA := Lib.hid hae1
  have HEB := Lib.hid hbe1
  have HRES : Hid (Num.atV O W J i a b = if O.getD i 0 ≤ a.getD i 0 + b.getD i 0 then Num.zer i ++ (a.getD i 0 + b.getD i 0 - O.getD i 0) :: Num.mulL (Num.tlL O W J (i + 1)) ((W.getD i []).drop (i + 1)) (Num.mulL (Num.tlL O W J (i + 1)) (Num.iter (Num.imgL (Num.lvA O W J i) (Num.tlL O W J (i + 1))) (b.getD i 0).toNat (a.drop (i + 1))) (b.drop (i + 1)))
      else Num.zer i ++ (a.getD i 0 + b.getD i 0) :: Num.mulL (Num.tlL O W J (i + 1)) (Num.iter (Num.imgL (Num.lvA O W J i) (Num.tlL O W J (i + 1))) (b.getD i 0).toNat (a.drop (i + 1))) (b.drop (i + 1))) := Lib.hid (by
    unfold Num.atV
    rw [hda, hdb, Num.tlL_step hi, Num.mulL_cons]
    by_cases h : O.getD i 0 ≤ a.getD i 0 + b.getD i 0
    · rw [if_pos (show (Num.lvA O W J i).o ≤ _ from h), if_pos h]; rfl
    · rw [if_neg (show ¬ (Num.lvA O W J i).o ≤ _ from h), if_neg h])
  obtain ⟨XA, hXA⟩ : ∃ x, x = a.getD i 0 := ⟨_, rfl⟩
  obtain ⟨XB, hXB⟩ : ∃ x, x = b.getD i 0 := ⟨_, rfl⟩
  obtain ⟨XO, hXO⟩ : ∃ x, x = O.getD i 0 := ⟨_, rfl⟩
  rw [← hXA, ← hXB, ← hXO] at HRES
  rw [← hXA, ← hXO] at hab
  rw [← hXB, ← hXO] at hbb
  rw [← hXO] at ho7
  have HXA := Lib.hid hXA
  have HXB := Lib.hid hXB
  have HXO := Lib.hid hXO
  clear hP hA hB hal hbl hae hbe V HImg HAt hda hdb hae1 hbe1 hXA hXB hXO
  generalize hW0 : (w.alloc (.cells #[.slice A0 O.length c0, .slice A1 O.length c1, .slice A2 O.length c2] 29)) = W0 at *
  obtain ⟨bl, bx0, bx1, bx2⟩ := BX
  have z0 := b0.size
  have HC1 := Lib.hid (HS1.out W0 (HPW.out _ b0).2.1)
  unfold VecO
  go_enter Try.func107, Try.ntmps107
  go_wp2_with (fail)
  refine HC1.out.mono ?_; rintro e w1 ⟨v1, rfl, ow1, hb1⟩
  have L1 : Below w.heap.size w w1 := bstep b0 z0 hb1
  have HC2 := Lib.hid (HS2.out w1 (HPW.out _ L1).2.2)
  go_wp2_with (fail)
  refine HC2.out.mono ?_; rintro e w2 ⟨v2, rfl, ow2, hb2⟩
  have L2 : Below w.heap.size w w2 := bstep L1 L1.size hb2
  have M2 : Below W0.heap.size W0 w2 := bstep hb1 hb1.size hb2
  have ow1' := ow1.below hb2
  obtain ⟨g1, d1, rfl, e1l, e1b⟩ := ownI_first ow1' (by rw [HAL.out]; omega) HAL.out
  obtain ⟨g2, d2, rfl, e2l, e2b⟩ := ownI_first ow2 (by rw [HBL.out]; omega) HBL.out
  obtain ⟨e1c, e1f⟩ := ow1'.at_ i (by rw [HAL.out]; omega)
  obtain ⟨e2c, e2f⟩ := ow2.at_ i (by rw [HBL.out]; omega)
  have hg1 : g1 < w1.heap.size := (World.ownsRow.lt ow1 g1 rfl).2
  have hne : g1 ≠ g2 := by omega
  have hne' : g2 ≠ g1 := by omega
  have O1 := Lib.hid (ownI_other (ow1'.set i 0) ⟨g2, i, none⟩ (.int .i64 0) (fun k e => by simp only [Value.ownBlock, Option.some.injEq] at e; simp; omega))
  have O2 := Lib.hid ((ownI_other ow2 ⟨g1, i, none⟩ (.int .i64 0) (fun k e => by simp only [Value.ownBlock, Option.some.injEq] at e; simp; omega)).set i 0)
  have L3 : Below w.heap.size w ((w2.setCell ⟨g1, i, none⟩ (.int .i64 0)).setCell ⟨g2, i, none⟩ (.int .i64 0)) := (L2.setCell (p := ⟨g1, i, none⟩) (by have := b0.size; show _ ≤ g1; omega) _).setCell (p := ⟨g2, i, none⟩) (by have := L1.size; show _ ≤ g2; omega) _
  have M3 : Below W0.heap.size W0 ((w2.setCell ⟨g1, i, none⟩ (.int .i64 0)).setCell ⟨g2, i, none⟩ (.int .i64 0)) := (M2.setCell (p := ⟨g1, i, none⟩) e1b _).setCell (p := ⟨g2, i, none⟩) (by have := hb1.size; show _ ≤ g2; omega) _
  generalize a.getD i 0 = aa at e1c
  generalize b.getD i 0 = bb at e2c
  clear ow1 ow1' ow2 L2 M2 hb1 hb2 HC1 HC2 HS1 HS2
  go_wp2_with (fail)
  generalize hW5 : ((w2.setCell ⟨g1, i, none⟩ (.int .i64 0)).setCell ⟨g2, i, none⟩ (.int .i64 0)) = W5 at *
  clear hW5 e1c e1f e2c e2f e1l e2l e1b e2b hne hne' hg1 L1
  have HL2 : Hid (RdI W5 (some ⟨g2, 0, none⟩) (b.set i 0)) := Lib.hid O2.out.reads
  have HL1 : Hid (RdI W5 (some ⟨g1, 0, none⟩) (a.set i 0)) := Lib.hid O1.out.reads
  clear O1 O2
  have z5 := M3.size
  go_loopw [12, 10] (fun s12 s10 wr => ∃ (t : Int) (l : List Int) (A : Option Addr) (c : Nat), s12 = .int .i64 t ∧ s10 = .slice A O.length c ∧ 0 ≤ t ∧ t ≤ XB ∧ Hid (RdI wr A l) ∧ Hid (l.length = O.length) ∧ Hid (Num.El (Num.tlL O W J (i + 1)) (l.drop (i + 1))) ∧
    Hid (Num.iter (Num.imgL (Num.lvA O W J i) (Num.tlL O W J (i + 1))) (XB - t).toNat (l.drop (i + 1)) = Num.iter (Num.imgL (Num.lvA O W J i) (Num.tlL O W J (i + 1))) XB.toNat (a.drop (i + 1))) ∧ Below W5.heap.size W5 wr) (fun s12 _ _ => (XB - intOf s12).toNat)
  case atStart =>
    exact ⟨0, _, _, _, rfl, rfl, by omega, by omega, HL1, Lib.hid (by rw [List.length_set]; exact HAL.out), Lib.hid (by rw [Num.drop_set]; exact HEA.out), Lib.hid (by rw [Num.drop_set, Int.sub_zero]), Below.refl _ _⟩
  case round =>
    clear HL1
    obtain ⟨t, l, A', c, rfl, rfl, ht0, ht, hR, hL, hE, hT, bl5⟩ := hrel
    have L5 : Below w.heap.size w wr := bstep L3 L3.size bl5
    have M5 : Below W0.heap.size W0 wr := bstep M3 z5 bl5
    have z6 := M5.size
    have y0 : wr.cell? ⟨w.heap.size, 0, none⟩ = some (.slice A0 O.length c0) := by rw [M5.cell bl]; exact bx0
    have y1 : wr.cell? ⟨w.heap.size, 1, none⟩ = some (.slice A1 O.length c1) := by rw [M5.cell bl]; exact bx1
    have y2 : wr.cell? ⟨w.heap.size, 2, none⟩ = some (.slice A2 O.length c2) := by rw [M5.cell bl]; exact bx2
    obtain ⟨hPr, hAr, hBr⟩ := HPW.out _ L5
    obtain ⟨gb, ob, rfl, hgb, hcb⟩ := hBr i (by rw [HBL.out]; exact hi)
    rw [← HXB.out] at hcb
    by_cases htl : t < XB
    · have HC := Lib.hid (HI.out wr l A' c hPr hR.out hL.out hE.out)
      unfold VecOut at HC
      have HE2 : Hid (Num.El (Num.tlL O W J (i + 1)) ((Num.imgV O W J i l).drop (i + 1))) := Lib.hid (by unfold Num.imgV; rw [Num.pad_drop]; exact Num.El.img (L := Num.lvA O W J i) (by rw [← Num.tlL_step hi]; exact HV.out.ok i) _)
      have HL2' : Hid ((Num.imgV O W J i l).length = O.length) := Lib.hid (by
        have := HE2.out
        unfold Num.imgV at this
        rw [Num.pad_drop] at this
        exact Num.pad_len (HV.out.ok _) this (by omega))
      have HT2 : Hid (Num.iter (Num.imgL (Num.lvA O W J i) (Num.tlL O W J (i + 1))) (XB - (t + 1)).toNat ((Num.imgV O W J i l).drop (i + 1)) = Num.iter (Num.imgL (Num.lvA O W J i) (Num.tlL O W J (i + 1))) XB.toNat (a.drop (i + 1))) := Lib.hid (by
        rw [← hT.out, show (XB - t).toNat = (XB - (t + 1)).toNat + 1 by omega, Num.iter]
        unfold Num.imgV
        rw [Num.pad_drop])
      have hw3 : IntKind.i64.wrap (t + 1) = t + 1 := IntWalk.i64_in _ (by omega)
      generalize Num.imgV O W J i l = l2 at *
      clear hT hE hL hR hPr hAr hBr
      go_wp2_with (fail)
      refine HC.out.mono ?_; rintro e w7 ⟨A7, c7, rfl, hR7, hb7⟩
      have HR7 := Lib.hid hR7
      have L7 := bstep bl5 bl5.size hb7
      clear hR7 hb7 HC
      go_wp2_with (fail)
      exact ⟨⟨t + 1, l2, A7, c7, rfl, rfl, by omega, by omega, HR7, HL2', HE2, HT2, L7⟩, by simp [intOf]; omega⟩
    · have HTT : Hid (l.drop (i + 1) = Num.iter (Num.imgL (Num.lvA O W J i) (Num.tlL O W J (i + 1))) XB.toNat (a.drop (i + 1))) := Lib.hid (by
        rw [← hT.out, show (XB - t).toNat = 0 by omega]; rfl)
      have HC : Hid (Calls Try.prog 107 #[prV A0 A1 A2 c0 c1 c2 O, .int .i64 ((i : Int) + 1), .slice A' O.length c, .slice (some ⟨g2, 0, none⟩) O.length d2] wr (VecOut O (Num.atV O W J (i + 1) l (b.set i 0)) wr)) := Lib.hid (by
        have := HA.out wr l (b.set i 0) A' (some ⟨g2, 0, none⟩) c d2 hPr hR.out (HL2.out.below' bl5) hL.out (by rw [List.length_set]; exact HBL.out) hE.out (by rw [Num.drop_set]; exact HEB.out)
        simpa using this)
      have HE2 : Hid (Num.El (Num.tlL O W J (i + 1)) ((Num.atV O W J (i + 1) l (b.set i 0)).drop (i + 1))) := Lib.hid (by unfold Num.atV; rw [Num.pad_drop]; exact Num.El.mul (HV.out.ok _) hE.out (by rw [Num.drop_set]; exact HEB.out))
      have HD2 : Hid ((Num.atV O W J (i + 1) l (b.set i 0)).drop (i + 1) = Num.mulL (Num.tlL O W J (i + 1)) (Num.iter (Num.imgL (Num.lvA O W J i) (Num.tlL O W J (i + 1))) XB.toNat (a.drop (i + 1))) (b.drop (i + 1))) := Lib.hid (by unfold Num.atV; rw [Num.pad_drop, Num.drop_set, HTT.out])
      have HD2' : Hid (Num.atV O W J (i + 1) l (b.set i 0) = Num.zer (i + 1) ++ (Num.atV O W J (i + 1) l (b.set i 0)).drop (i + 1)) := Lib.hid (by unfold Num.atV; rw [Num.pad_drop])
      have HL2' : Hid ((Num.atV O W J (i + 1) l (b.set i 0)).length = O.length) := Lib.hid (by rw [HD2'.out]; exact Num.pad_len (HV.out.ok _) HE2.out (by omega))
      unfold VecOut at HC
      generalize Num.atV O W J (i + 1) l (b.set i 0) = r1 at *
      clear HTT hT hE hL hR hAr HL2
      go_wp2_with (fail)
      refine HC.out.mono ?_; rintro e w7 ⟨A7, c7, rfl, hR7, hb7⟩
      have L7 := bstep L5 L5.size hb7
      have M7 := bstep M5 z6 hb7
      obtain ⟨hP7, hA7, hB7⟩ := HPW.out _ L7
      have y0 : w7.cell? ⟨w.heap.size, 0, none⟩ = some (.slice A0 O.length c0) := by rw [M7.cell bl]; exact bx0
      have y1 : w7.cell? ⟨w.heap.size, 1, none⟩ = some (.slice A1 O.length c1) := by rw [M7.cell bl]; exact bx1
      have y2 : w7.cell? ⟨w.heap.size, 2, none⟩ = some (.slice A2 O.length c2) := by rw [M7.cell bl]; exact bx2
      obtain ⟨gb', ob', e, hgb', hcb'⟩ := hB7 i (by rw [HBL.out]; exact hi)
      simp only [Option.some.injEq, Addr.mk.injEq, and_true] at e
      obtain ⟨rfl, rfl⟩ := e
      rw [← HXB.out] at hcb'
      obtain ⟨ga, oa, rfl, hga, hca⟩ := hA7 i (by rw [HAL.out]; exact hi)
      rw [← HXA.out] at hca
      obtain ⟨go, oo, rfl, hgo, hco⟩ := hP7.1 i hi
      rw [← HXO.out] at hco
      have hw1 : IntKind.i64.wrap (XA + XB) = XA + XB := IntWalk.i64_in _ (by omega)
      have hw2 : IntKind.i64.wrap (XA + XB - XO) = XA + XB - XO := IntWalk.i64_in _ (by omega)
      have HR7 := Lib.hid hR7
      have HP7 := Lib.hid hP7
      clear hP7 hR7 hA7 hB7 hb7 L5 M5 hPr hcb hBr
      go_wp2_with (fail)
      have HQ : Hid (∀ m, (Below w.heap.size w (w7.drewN m)) ∧ (Below W0.heap.size W0 (w7.drewN m))) := Lib.hid fun m => ⟨below_drewN L7 m, below_drewN M7 m⟩
      by_cases hc : XO ≤ XA + XB
      · go_quiet (fail)
        obtain ⟨LQ, MQ⟩ := HQ.out nq
        have HPQ := Lib.hid (HPW.out _ LQ).1
        have HRQ : Hid (RdI (w7.drewN nq) A7 r1) := Lib.hid (HR7.out.below' (below_drewN (Below.refl _ _) nq))
        clear HR7 HP7 hga hca hgo hco y0 y1 y2 HQ HC
        generalize hWQ : w7.drewN nq = wq at *
        clear hWQ
        have y0 : wq.cell? ⟨w.heap.size, 0, none⟩ = some (.slice (some ⟨go, oo, none⟩) O.length c0) := by rw [MQ.cell bl]; exact bx0
        have y1 : wq.cell? ⟨w.heap.size, 1, none⟩ = some (.slice A1 O.length c1) := by rw [MQ.cell bl]; exact bx1
        have y2 : wq.cell? ⟨w.heap.size, 2, none⟩ = some (.slice A2 O.length c2) := by rw [MQ.cell bl]; exact bx2
        obtain ⟨go', oo', e, hgo, hco⟩ := HPQ.out.1 i hi
        simp only [Option.some.injEq, Addr.mk.injEq, and_true] at e
        obtain ⟨rfl, rfl⟩ := e
        rw [← HXO.out] at hco
        obtain ⟨gw, ow, Bw, dw, rfl, hgw, hcw, hlw, hrw⟩ := HPQ.out.2.1 i (by rw [HV.out.lw]; exact hi)
        rw [HV.out.wl i hi] at hcw
        have HC2 : Hid (∀ W', Below wq.heap.size wq W' → Calls Try.prog 107 #[prV (some ⟨go, oo, none⟩) (some ⟨gw, ow, none⟩) A2 c0 c1 c2 O, .int .i64 ((i : Int) + 1), .slice Bw O.length dw, .slice A7 O.length c7] W' (VecOut O (Num.atV O W J (i + 1) (W.getD i []) r1) W')) := Lib.hid (by
          intro W' hb
          have := HA.out W' (W.getD i []) r1 Bw A7 dw c7 ⟨HPQ.out.1.below' hb, HPQ.out.2.1.below' hb, HPQ.out.2.2.below' hb⟩ (hrw.below' hb) (HRQ.out.below' hb) (HV.out.wl i hi) HL2'.out (HV.out.we i _ hi) HE2.out
          simpa using this)
        have HE3 : Hid ((Num.atV O W J (i + 1) (W.getD i []) r1).length = O.length ∧ (Num.atV O W J (i + 1) (W.getD i []) r1).set i (XA + XB - XO) = Num.atV O W J i a b) := Lib.hid (by
          have he := Num.El.mul (HV.out.ok (i + 1)) (HV.out.we i _ hi) HE2.out
          refine ⟨Num.pad_len (HV.out.ok _) he (by omega), ?_⟩
          rw [HRES.out, if_pos hc, ← HD2.out]
          unfold Num.atV
          rw [Num.set_pad])
        unfold VecOut at HC2
        generalize Num.atV O W J (i + 1) (W.getD i []) r1 = r2 at *
        clear hrw hlw hgw
        go_wp2_with (fail)
        go_still_tail 9, (by kernel_rfl)
        change wpList _ _ _ _ _ wq.drew
        have bd : Below wq.heap.size wq wq.drew := (Below.refl _ _).drew
        have HC3 := Lib.hid (HC2.out _ bd)
        have LD := bstep LQ LQ.size bd
        have MD := bstep MQ MQ.size bd
        clear hcw y0 y1 y2 hco hgo HC2 HRQ HPQ
        generalize hWD : wq.drew = wd at *
        clear hWD bd
        go_wp2_with (fail)
        refine HC3.out.mono ?_; rintro e w8 ⟨A8, c8, rfl, hR8, hb8⟩
        have L8 := bstep LD LD.size hb8
        have HO8 := Lib.hid (sOwnI_any A8 O.length c8 r2 w8 hR8 HE3.out.1 (by rw [HE3.out.1]; omega))
        clear HC3 hR8 hb8 LD MD
        go_wp2_with (fail)
        refine HO8.out.mono ?_; rintro e w9 ⟨v9, rfl, ow9, hb9⟩
        have L9 := bstep L8 L8.size hb9
        obtain ⟨g9, d9, rfl, e9l, e9b⟩ := ownI_first ow9 (by rw [HE3.out.1]; omega) HE3.out.1
        obtain ⟨e9c, e9f⟩ := ow9.at_ i (by rw [HE3.out.1]; omega)
        have O9 := Lib.hid (ow9.set i (XA + XB - XO))
        have L10 : Below w.heap.size w (w9.setCell ⟨g9, i, none⟩ (.int .i64 (XA + XB - XO))) := L9.setCell (p := ⟨g9, i, none⟩) (by have := L8.size; show _ ≤ g9; omega) _
        rw [HE3.out.2] at O9
        clear ow9 hb9 HO8
        go_wp2_with (fail)
        go_ret
        exact ⟨_, _, rfl, O9.out.base_ L8.size, L10⟩
      · go_quiet (fail)
        obtain ⟨LQ, MQ⟩ := HQ.out nq
        have HPQ := Lib.hid (HPW.out _ LQ).1
        have HRQ : Hid (RdI (w7.drewN nq) A7 r1) := Lib.hid (HR7.out.below' (below_drewN (Below.refl _ _) nq))
        clear HR7 HP7 hga hca hgo hco y0 y1 y2 HQ HC
        generalize hWQ : w7.drewN nq = wq at *
        clear hWQ
        have y0 : wq.cell? ⟨w.heap.size, 0, none⟩ = some (.slice (some ⟨go, oo, none⟩) O.length c0) := by rw [MQ.cell bl]; exact bx0
        have y1 : wq.cell? ⟨w.heap.size, 1, none⟩ = some (.slice A1 O.length c1) := by rw [MQ.cell bl]; exact bx1
        have y2 : wq.cell? ⟨w.heap.size, 2, none⟩ = some (.slice A2 O.length c2) := by rw [MQ.cell bl]; exact bx2
        obtain ⟨go', oo', e, hgo, hco⟩ := HPQ.out.1 i hi
        simp only [Option.some.injEq, Addr.mk.injEq, and_true] at e
        obtain ⟨rfl, rfl⟩ := e
        rw [← HXO.out] at hco
        have HE3 : Hid (r1.set i (XA + XB) = Num.atV O W J i a b) := Lib.hid (by
          rw [HRES.out, if_neg hc, ← HD2.out, HD2'.out, Num.set_pad]
          unfold Num.zer
          rw [List.drop_append_of_le_length (by simp)]
          simp)
        have HO8 := Lib.hid (sOwnI_any A7 O.length c7 r1 wq HRQ.out HL2'.out (by rw [HL2'.out]; omega))
        clear HRQ HPQ
        go_wp2_with (fail)
        refine HO8.out.mono ?_; rintro e w9 ⟨v9, rfl, ow9, hb9⟩
        have L9 := bstep LQ LQ.size hb9
        obtain ⟨g9, d9, rfl, e9l, e9b⟩ := ownI_first ow9 (by rw [HL2'.out]; omega) HL2'.out
        obtain ⟨e9c, e9f⟩ := ow9.at_ i (by rw [HL2'.out]; omega)
        have O9 := Lib.hid (ow9.set i (XA + XB))
        have L10 : Below w.heap.size w (w9.setCell ⟨g9, i, none⟩ (.int .i64 (XA + XB))) := L9.setCell (p := ⟨g9, i, none⟩) (by have := LQ.size; show _ ≤ g9; omega) _
        rw [HE3.out] at O9
        clear ow9 hb9 HO8
        go_wp2_with (fail)
        go_ret
        exact ⟨_, _, rfl, O9.out.base_ LQ.size, L10⟩
theorem AtOkO.ok {A0 A1 A2 : Option Addr} {c0 c1 c2 : Nat} {O : List Int} {W : List (List Int)} {J : List (List (List Int))} {i : Nat} (h : AtOkO A0 A1 A2 c0 c1 c2 O W J i) : AtOk A0 A1 A2 c0 c1 c2 O W J i :=
  fun w a b A B ca cb h1 h2 h3 h4 h5 h6 h7 => (h w a b A B ca cb h1 h2 h3 h4 h5 h6 h7).mono fun e w' ⟨A', c, h8, h9, h10⟩ => ⟨A', c, h8, h9.reads, h10⟩
/-- Both at every index. -/
theorem sAt_any {A0 A1 A2 : Option Addr} {c0 c1 c2 : Nat} {O : List Int} {W : List (List Int)} {J : List (List (List Int))} (V : Num.Val O W J) : ∀ (d i : Nat), O.length - i = d → i ≤ O.length → AtOk A0 A1 A2 c0 c1 c2 O W J i
  | 0, i, h, hi => (sAt_end V i (by omega)).ok
  | d + 1, i, h, hi => by
    have ih : AtOk A0 A1 A2 c0 c1 c2 O W J (i + 1) := sAt_any V d (i + 1) (by omega) (by omega)
    exact (sAt_of V i (by omega) (sImg_of V i (by omega) ih) ih).ok
theorem sImg_any {A0 A1 A2 : Option Addr} {c0 c1 c2 : Nat} {O : List Int} {W : List (List Int)} {J : List (List (List Int))} (V : Num.Val O W J) (i : Nat) (hi : i < O.length) : ImgOk A0 A1 A2 c0 c1 c2 O W J i :=
  sImg_of V i hi (sAt_any V _ (i + 1) rfl (by omega))
theorem sAtO_any {A0 A1 A2 : Option Addr} {c0 c1 c2 : Nat} {O : List Int} {W : List (List Int)} {J : List (List (List Int))} (V : Num.Val O W J) (i : Nat) (hi : i ≤ O.length) : AtOkO A0 A1 A2 c0 c1 c2 O W J i := by
  by_cases h : i = O.length
  · exact sAt_end V i h
  · exact sAt_of V i (by omega) (sImg_any V i (by omega)) (sAt_any V _ (i + 1) rfl (by omega))
end Go.Proofs.Yteappjgdcbploaa
