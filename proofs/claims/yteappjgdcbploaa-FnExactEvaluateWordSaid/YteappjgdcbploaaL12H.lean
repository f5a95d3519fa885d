/- Consistency of the program: firstImages; relations: isPower, faultAt; isMapped, isInner. -/
import Derived.Test.YteappjgdcbploaaL12G
import Derived.Test.YteappjgdcbploaaL11E
namespace Go.Proofs.Yteappjgdcbploaa
open Go.RowKit
open Go.Maps (Keyed Tidy IsMap)
set_option linter.unusedVariables false
set_option linter.unusedSimpArgs false

theorem El_full {O : List Int} {W : List (List Int)} {J : List (List (List Int))} (V : Num.Val O W J) {v : List Int} (h : v.length = O.length) (z : Nat) (hz : z ≤ O.length) (h0 : ∀ j, j < z → v.getD j 0 = 0) (he : Num.El (Num.tlL O W J z) (v.drop z)) : Num.El (Num.tlL O W J 0) v := by
  have := Num.El.drop_of (O := O) (W := W) (J := J) _ 0 rfl h fun j _ hj => by
    by_cases hjz : j < z
    · have := V.ob j hj; rw [h0 j hjz]; omega
    · have := Num.El.at _ z rfl he (j - z) (by omega)
      rw [List.getD_eq_getElem?_getD, List.getElem?_drop, show z + (j - z) = j by omega, ← List.getD_eq_getElem?_getD] at this
      exact this
  simpa using this
theorem TwR.below {O : List Int} {W : List (List Int)} {J : List (List (List Int))} {t : Tw} {l : Nat} {w w' : World} (h : TwR O W J t l w) (hb : Below w.heap.size w w') : TwR O W J t l w' :=
  ⟨h.box.below hb, ⟨h.pres.1.below' hb, h.pres.2.1.below' hb, h.pres.2.2.below' hb⟩, h.sz.below' hb, fun j h1 h2 => by
    obtain ⟨gP, B, c, e, hg, hc, hr⟩ := h.tabs j h1 h2
    exact ⟨gP, B, c, e, by have := hb.size; omega, by rw [hb.cell hg]; exact hc, hr.below' hb⟩⟩
/-- A map's block holds no cells. -/
theorem cell_map {w w' : World} {b : Nat} {es : Array MapEntry} {ck : Nat} (hm : w.heap[b]? = some (.map es ck)) (hc : ChgS (fun k => k = b) w w') {g o : Nat} {v : Value} (h : w.cell? ⟨g, o, none⟩ = some v) : w'.cell? ⟨g, o, none⟩ = some v ∧ g < w.heap.size := by
  have hne : g ≠ b := fun e => by
    subst e
    unfold World.cell? at h
    rw [hm] at h
    simp at h
  have hlt : g < w.heap.size := by
    by_cases hlt : g < w.heap.size
    · exact hlt
    · unfold World.cell? at h
      rw [Array.getElem?_eq_none (by show w.heap.size ≤ g; omega)] at h
      simp at h
  refine ⟨?_, hlt⟩
  unfold World.cell? at h ⊢
  rw [hc.block g hlt hne]
  exact h
section
variable {w w' : World} {b : Nat} {es : Array MapEntry} {ck : Nat} (hm : w.heap[b]? = some (.map es ck)) (hc : ChgS (fun k => k = b) w w')
include hm hc
theorem RdI.chgMap {A : Option Addr} {xs : List Int} (h : RdI w A xs) : RdI w' A xs := fun i hi => by
  obtain ⟨g, o, e, hg, h2⟩ := h i hi
  exact ⟨g, o, e, Nat.lt_of_lt_of_le hg hc.size, (cell_map hm hc h2).1⟩
theorem RdW.chgMap {A : Option Addr} {fs : List (List Int)} (h : RdW w A fs) : RdW w' A fs := fun i hi => by
  obtain ⟨g, o, B, c, e, hg, h2, h3, h4⟩ := h i hi
  exact ⟨g, o, B, c, e, Nat.lt_of_lt_of_le hg hc.size, (cell_map hm hc h2).1, h3, RdI.chgMap hm hc h4⟩
theorem RdX.chgMap {A : Option Addr} {fs : List (List (List Int))} (h : RdX w A fs) : RdX w' A fs := fun i hi => by
  obtain ⟨g, o, B, c, e, hg, h2, h3, h4⟩ := h i hi
  exact ⟨g, o, B, c, e, Nat.lt_of_lt_of_le hg hc.size, (cell_map hm hc h2).1, h3, RdW.chgMap hm hc h4⟩
theorem Blk.chgMap {g : Nat} {vs : List Value} {t : TypeId} (h : Blk w g vs t) : Blk w' g vs t := by
  have hne : g ≠ b := fun e => by
    subst e
    unfold Blk at h
    rw [hm] at h
    cases h
  exact h.chg hc hne
theorem TwR.chgMap {O : List Int} {W : List (List Int)} {J : List (List (List Int))} {t : Tw} {l : Nat} (h : TwR O W J t l w) : TwR O W J t l w' :=
  ⟨Blk.chgMap hm hc h.box, ⟨RdI.chgMap hm hc h.pres.1, RdW.chgMap hm hc h.pres.2.1, RdX.chgMap hm hc h.pres.2.2⟩, RdI.chgMap hm hc h.sz, fun j h1 h2 => by
    obtain ⟨gP, B, c, e, hg, hcl, hr⟩ := h.tabs j h1 h2
    exact ⟨gP, B, c, e, Nat.lt_of_lt_of_le hg hc.size, (cell_map hm hc hcl).1, RdI.chgMap hm hc hr⟩⟩
end
/-- A map of first images. -/
def FirstIm (O : List Int) (W : List (List Int)) (J : List (List (List Int))) (i bm : Nat) (w : World) : Prop := ∃ D, w.ownsMap Try.prog 2 (plainElem (H := Unit) Try.prog 2) bm (Maps.size D) D ∧ Memo O W J i O.length D
set_option maxRecDepth 100000 in
set_option maxHeartbeats 4000000 in
theorem firstImages_any {O : List Int} {W : List (List Int)} {J : List (List (List Int))} (V : Num.Val O W J) (i : Nat) (hi : i < O.length) (C : Num.Con (Num.tlL O W J (i + 1))) (t : Tw) (w : World) (T : TwR O W J t (i + 1) w) :
    Calls Try.prog 156 #[.pointer (some ⟨t.tb, 0, none⟩), .int .i64 (i : Int)] w fun e w' => ∃ bm, e = .returned (.map (some bm)) ∧ w.heap.size ≤ bm ∧ Below w.heap.size w w' ∧ FirstIm O W J i bm w' := by
  have n6 := V.n6
  have HV := Lib.hid V
  have HC := Lib.hid C
  have hOi := V.ok i
  rw [Num.tlL_step hi] at hOi
  have HOi := Lib.hid hOi
  obtain ⟨w1, hrun, hown, hgr⟩ := (World.ownsMap_made w Try.prog 2 (plainElem (H := Unit) Try.prog 2)).update keyed2 Try.underlying161 (by unfold maxLen; omega) (key2 (x := 0) (by omega)) (intR_mk (x := 0) (by omega))
  have L0 : Below w.heap.size w (w.alloc (.map #[] 0)) := (Below.refl _ _).alloc (Nat.le_refl _) _
  have L1 : Below w.heap.size w w1 := L0.grown hgr L0.size (fun k hk => by simp at hk; omega)
  have HT : Hid (∀ w', Below w.heap.size w w' → TwR O W J t (i + 1) w') := Lib.hid fun w' hb => T.below hb
  have M1 : ∃ D, w1.ownsMap Try.prog 2 (plainElem (H := Unit) Try.prog 2) w.heap.size (Maps.size D) D ∧ Memo O W J i 0 D := by
    have h0 : Maps.has (DataW.put (.map []) (ky 0) (kd 0) : DataW Unit) (ky 0) = true := Maps.has_put_same Maps.isMap_empty (key_lit 0) _
    refine ⟨_, own_full hown, fun a ha hh => ?_, fun q hq => by omega, h0, ⟨_, rfl, fun p hp => ?_⟩⟩
    · by_cases e : Num.numL (Num.tlL O W J (i + 1)) a = 0
      · have ez : a = Num.zer (Num.tlL O W J (i + 1)).length := Num.numL_inj (V.ok (i + 1)) ha (Num.zer_El (V.ok (i + 1))) (by rw [e, Num.numL_zer])
        rw [e, Maps.atKey_put_same Maps.isMap_empty (key_lit 0), ez]
        show kd 0 = kd _
        rw [show Num.imgL (Num.lvA O W J i) (Num.tlL O W J (i + 1)) (Num.zer (Num.tlL O W J (i + 1)).length) = Num.zer (Num.tlL O W J (i + 1)).length from Num.ev_zer _ _ _ _, Num.numL_zer]
      · rw [Maps.has_put_other (ky_ne e)] at hh
        cases hh
    · rcases mem_insert hp with rfl | hp
      · exact ⟨0, rfl, by omega, (szL_bd V (i + 1)).1⟩
      · simp at hp
  obtain ⟨D1, hD1, hM1⟩ := M1
  have HD1 := Lib.hid hD1
  have HM1 := Lib.hid hM1
  have hmm := @run_makeMap Try.prog
  have hrl := V.lr i hi
  have hlj := V.lj
  have hw1 : IntKind.i64.wrap ((i : Int) + 1) = ((i + 1 : Nat) : Int) := by rw [IntWalk.i64_in _ (by omega)]; omega
  obtain ⟨tl, t0, t1, t2, t3, t4, t5, t6, t7⟩ := (T.below L1).box.c8
  obtain ⟨gJ, oJ, BJ, cJ, hJe, hgJ, cJ0, hJl, hJr⟩ := T.pres.2.2 i (by omega)
  have cJ' : w1.cell? ⟨gJ, oJ + i, none⟩ = some (.slice BJ (J.getD i []).length cJ) := by rw [L1.cell hgJ]; exact cJ0
  have RJ : Hid (∀ w', Below w.heap.size w w' → RdW w' BJ (J.getD i [])) := Lib.hid fun w' hb => hJr.below' hb
  have iJ : (i : Int) < (O.length : Int) := by omega
  have i0 : (0 : Int) ≤ (i : Int) := by omega
  rw [hJe] at t2
  have HRL := Lib.hid hrl
  unfold maxLen at hJl
  clear V C T hOi hown hgr hD1 hM1 hrl hlj cJ0 hJr
  go_enter Try.func156, Try.ntmps156
  go_wp2_with (fail)
  go_loopw [6, 7, 19] (fun _ _ s19 wr => ∃ (k : Nat) (D : DataW Unit), s19 = .int .i64 (k : Int) ∧ k ≤ (J.getD i []).length ∧ Hid (wr.ownsMap Try.prog 2 (plainElem (H := Unit) Try.prog 2) w.heap.size (Maps.size D) D) ∧ Hid (Memo O W J i k D) ∧ Below w.heap.size w wr) (fun _ _ s19 _ => (J.getD i []).length - (intOf s19).toNat)
  case atStart => exact ⟨0, D1, rfl, by omega, HD1, HM1, L1⟩
  case round =>
    obtain ⟨k, D, rfl, hk, hD, hM, bel⟩ := hrel
    by_cases hlt : k < (J.getD i []).length
    · obtain ⟨gV, oV, BV, cV, rfl, hgV, cV', hVl, hVr⟩ := RJ.out _ bel k hlt
      have hkn : i + 1 + k < O.length := by have := HRL.out; omega
      have k0 : (0 : Int) ≤ (k : Int) := by omega
      have k1 : (k : Int) < ((J.getD i []).length : Int) := by omega
      have hw2 : IntKind.i64.wrap (((i + 1 : Nat) : Int) + (k : Int)) = ((i + 1 + k : Nat) : Int) := by rw [IntWalk.i64_in _ (by omega)]; omega
      have hVL := HV.out.cl i k hi (by have := HRL.out; omega)
      rw [hVL] at cV'
      have TR := HT.out _ bel
      have HG := Lib.hid (gen_any HV.out TR (i + 1 + k) hkn)
      have hz := fun j hj => HV.out.cz i k j hi (by have := HRL.out; omega) hj
      have hce := HV.out.ce i k (i + 1) hi (by have := HRL.out; omega)
      have HNu := Lib.hid (number_any HV.out TR ((J.getD i []).getD k []) BV cV hVr hVL (El_full HV.out hVL (i + 1) (by omega) (fun j hj => hz j (by omega)) hce))
      have hnp := Num.num_pad (W := W) (J := J) hVL (i + 1) (by omega) (fun j hj => hz j (by omega))
      obtain ⟨g, g1, g2, g3⟩ := gen_num HV.out hi HC.out hkn
      have hcd : (Num.lvA O W J i).cj.getD k [] = ((J.getD i []).getD k []).drop (i + 1) := by
        have := Num.lvA_cjD (i := i) (j := i + 1 + k) HV.out (by omega) hkn
        rw [show i + 1 + k - (i + 1) = k by omega] at this
        rw [this]
        unfold Num.cV
        rw [show i + 1 + k - (i + 1) = k by omega]
      rw [hcd] at g3
      have hgb := num_ok HV.out g1
      have hib := num_ok HV.out (Num.El.img HOi.out g)
      have hsz := hM.out.size HV.out (hD.out.tidy keyed2)
      obtain ⟨w2, hrun2, hown2, hgr2⟩ := hD.out.update keyed2 Try.underlying161 (by unfold maxLen; omega) (key2 (x := Num.numL (Num.tlL O W J (i + 1)) g) (by omega)) (intR_mk (x := Num.numL (Num.tlL O W J (i + 1)) (Num.imgL (Num.lvA O W J i) (Num.tlL O W J (i + 1)) g)) (by omega))
      have hput := (hM.out.put HV.out hD.out.isMap g1).more (fun _ => by rw [← g2]; exact Maps.has_put_same hD.out.isMap (key_lit _) _)
      have HD2 := Lib.hid (own_full hown2)
      have HM2 := Lib.hid hput
      have L2 : Below w.heap.size w w2 := bel.grown hgr2 bel.size (fun k hk => by simp at hk; omega)
      rw [g3, ← hnp, g2] at hrun2
      have hwk : IntKind.i64.wrap ((k : Int) + 1) = ((k + 1 : Nat) : Int) := by rw [IntWalk.i64_in _ (by omega)]; omega
      generalize Num.numL (Num.tlL O W J 0) ((J.getD i []).getD k []) = y at *
      generalize Num.szL (Num.tlL O W J (i + 1 + k + 1)) = sg at *
      clear hput hown2 hgr2 hsz hgb hib g1 g2 g3 hcd hnp hce hz TR hVr hVL hM hD
      go_wp2_with (fail)
      refine HG.out.mono ?_; rintro e w3 ⟨rfl, rfl⟩
      go_wp2_with (fail)
      refine HNu.out.mono ?_; rintro e w3 ⟨rfl, rfl⟩
      go_wp2_with (fail)
      exact ⟨⟨k + 1, _, rfl, by omega, HD2, HM2, L2⟩, by simp [intOf]; omega⟩
    · have HF : Hid (FirstIm O W J i w.heap.size wr) := Lib.hid ⟨D, hD.out, hM.out.full (by have := HRL.out; omega)⟩
      have hge : ¬ ((k : Int) < ((J.getD i []).length : Int)) := by omega
      go_wp2_with (fail)
      go_ret
      exact ⟨_, rfl, Nat.le_refl _, bel, HF.out⟩
/-- A relation as a value. -/
def relV (p : RelV) : Value := .agg #[p.1, .int .i64 p.2.g, .int .i64 p.2.b, .int .i64 p.2.o]
set_option maxHeartbeats 1000000 in
theorem isPower2_any (p : RelV) (w : World) (hp : RelRd w p) : Calls Try.prog 148 #[relV p] w fun e w' => e = .returned (.bool (decide (p.2.g = p.2.b))) ∧ Below w.heap.size w w' := by
  obtain ⟨v, x, g, b, o⟩ := p
  obtain ⟨A, c, e, -, -⟩ := hp
  simp only at e
  subst e
  have b0 : Below w.heap.size w (w.alloc (.cells #[.slice A x.length c, .int .i64 g, .int .i64 b, .int .i64 o] 102)) := by go_grown
  obtain ⟨bl, x0, x1, x2, x3⟩ := (Blk.new w [.slice A x.length c, .int .i64 g, .int .i64 b, .int .i64 o] 102).c4
  unfold relV
  go_enter Try.func148, Try.ntmps148
  go_wp2_with (fail)
  go_ret
  exact ⟨rfl, b0⟩
set_option maxRecDepth 100000 in
set_option maxHeartbeats 2000000 in
theorem relFault_any (p : RelV) (l : Int) (w : World) (hp : RelRd w p) : Calls Try.prog 165 #[relV p, .int .i64 l] w fun e w' => e = .returned (fltV (if p.2.g = p.2.b then ⟨1, l, p.2.b, 0⟩ else ⟨2, l, p.2.b, p.2.g⟩)) ∧ Below w.heap.size w w' := by
  have hp0 := hp
  obtain ⟨v, x, g, b, o⟩ := p
  obtain ⟨A, c, e, -, -⟩ := hp
  simp only at e
  subst e
  obtain ⟨W0, hW0⟩ : ∃ X, (w.alloc (.cells #[.slice A x.length c, .int .i64 g, .int .i64 b, .int .i64 o] 102)).alloc (.cells #[.int .i64 0, .int .i64 0, .int .i64 0, .int .i64 0] 132) = X := ⟨_, rfl⟩
  have b0 : Below w.heap.size w W0 := by rw [← hW0]; go_grown
  have BX : Blk W0 w.heap.size [.slice A x.length c, .int .i64 g, .int .i64 b, .int .i64 o] 102 := by rw [← hW0]; exact (Blk.new w [.slice A x.length c, .int .i64 g, .int .i64 b, .int .i64 o] 102).alloc _
  have BF : Blk W0 (w.heap.size + 1) [.int .i64 0, .int .i64 0, .int .i64 0, .int .i64 0] 132 := by
    rw [← hW0]
    have := Blk.new (w.alloc (.cells #[.slice A x.length c, .int .i64 g, .int .i64 b, .int .i64 o] 102)) [.int .i64 0, .int .i64 0, .int .i64 0, .int .i64 0] 132
    simpa using this
  obtain ⟨bl, x0, x1, x2, x3⟩ := BX.c4
  have HP := Lib.hid (isPower2_any (.slice A x.length c, ⟨x, g, b, o⟩) W0 (hp0.below' b0))
  unfold relV at HP ⊢
  simp only at HP ⊢
  by_cases hgb : g = b
  · subst hgb
    simp only [decide_true, if_true] at HP ⊢
    go_enter Try.func165, Try.ntmps165
    go_wp2_with (fail)
    clear hW0
    refine HP.out.mono ?_; rintro e w2 ⟨rfl, hb2⟩
    have L2 := bstep b0 b0.size hb2
    have BF2 := BF.below hb2
    obtain ⟨bl2, z0, z1, z2, z3⟩ := (BX.below hb2).c4
    obtain ⟨w9, e9, B9, L9⟩ := flt_store BF2 (.int .i64 1) (.int .i64 l) (.int .i64 g) (.int .i64 0) (by omega : w.heap.size ≤ w.heap.size + 1) L2
    obtain ⟨bl9, f0, f1, f2, f3⟩ := BF2.c4
    obtain ⟨bl9', r0, r1, r2, r3⟩ := B9.c4
    have g0 := BF2.free 0
    have g1 := BF2.free 1
    have g2 := BF2.free 2
    have g3 := BF2.free 3
    clear hb2 B9 HP x0 x1 x2 x3
    go_wp2_with (fail)
    refine bodyPost_ret (v := .agg #[.int .i64 1, .int .i64 l, .int .i64 g, .int .i64 0]) (by simp [results, Try.results165, go_sem, bl9', r0, r1, r2, r3]) rfl ?_
    exact ⟨rfl, L9⟩
  · have hd : decide (g = b) = false := by simp [hgb]
    rw [hd] at HP
    rw [if_neg hgb]
    clear hd
    go_enter Try.func165, Try.ntmps165
    go_wp2_with (fail)
    clear hW0
    refine HP.out.mono ?_; rintro e w2 ⟨rfl, hb2⟩
    have L2 := bstep b0 b0.size hb2
    have BF2 := BF.below hb2
    obtain ⟨bl2, z0, z1, z2, z3⟩ := (BX.below hb2).c4
    obtain ⟨w9, e9, B9, L9⟩ := flt_store BF2 (.int .i64 2) (.int .i64 l) (.int .i64 b) (.int .i64 g) (by omega : w.heap.size ≤ w.heap.size + 1) L2
    obtain ⟨bl9, f0, f1, f2, f3⟩ := BF2.c4
    obtain ⟨bl9', r0, r1, r2, r3⟩ := B9.c4
    have g0 := BF2.free 0
    have g1 := BF2.free 1
    have g2 := BF2.free 2
    have g3 := BF2.free 3
    clear hb2 B9 HP x0 x1 x2 x3
    go_wp2_with (fail)
    refine bodyPost_ret (v := .agg #[.int .i64 2, .int .i64 l, .int .i64 b, .int .i64 g]) (by simp [results, Try.results165, go_sem, bl9', r0, r1, r2, r3]) rfl ?_
    exact ⟨rfl, L9⟩
end Go.Proofs.Yteappjgdcbploaa
