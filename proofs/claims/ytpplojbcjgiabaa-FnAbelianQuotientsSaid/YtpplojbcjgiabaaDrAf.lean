/- The draw of two abelian groups, the second at times of factors of the first. -/
import Derived.Test.YtpplojbcjgiabaaDrAd
import Derived.RegionTactic
import Derived.BigRegion
import Derived.Deep.RegionWith
namespace Go.Proofs.Ytpplojbcjgiabaa
open Go.RowKit
set_option linter.unusedVariables false
set_option linter.unusedSimpArgs false
/-- The room of a list of its own. -/
theorem OwnI.roomD {w : World} {b : Nat} {A : Option Addr} {n c : Nat} {x : List Int} (h : OwnI w b (.slice A n c) x) : n ≤ c := by
  rcases h.2 with ⟨e, h0⟩ | ⟨g, cap, cur, e, hb, hg, h1⟩
  · simp only [Value.slice.injEq] at e
    omega
  · simp only [Value.slice.injEq] at e
    have := h1.1
    omega
theorem own_up {w : World} {S : Nat → Prop} {v : Value} {x : List Int} {B : Nat} (h : spI.own w S v x) (hS : ∀ k, S k → B ≤ k) : OwnI w B v x := by
  obtain ⟨h1, h2, -⟩ := h
  refine ⟨h1.1, ?_⟩
  rcases h1.2 with h | ⟨g, cap, cur, hv, hb, r⟩
  · exact .inl h
  · exact .inr ⟨g, cap, cur, hv, hS g (h2 g (by rw [hv]; rfl)), r⟩
theorem spI_dropE {w : World} {A : Option Addr} {n c c' : Nat} {x : List Int} {k : Nat} (h : spI.rd w (.slice A n c) x) (hk : k ≤ x.length) (hc : n ≤ c) :
    spI.rd w (.slice (if c = k then A else A.map fun p => p.add k) (n - k) c') (x.drop k) := by
  obtain ⟨A', c'', e', hm, h3⟩ := h
  simp only [Value.slice.injEq] at e'
  obtain ⟨rfl, rfl, rfl⟩ := e'
  have el : (x.drop k).length = x.length - k := by simp
  refine ⟨_, _, by rw [el], by rw [el]; omega, fun j hj => ?_⟩
  rw [el] at hj
  obtain ⟨g', o', e1, e2, e3⟩ := h3 (k + j) (by omega)
  subst e1
  have e : (x.drop k).getD j 0 = x.getD (k + j) 0 := by simp [List.getD_eq_getElem?_getD]
  rw [if_neg (by omega)]
  exact ⟨g', o' + k, by simp [Addr.add_lit], e2, by rw [e, Nat.add_assoc]; exact e3⟩
set_option maxRecDepth 100000 in
set_option maxHeartbeats 4000000 in
theorem drawQuo_any (A : Option Addr) (len cap : Nat) (w : World) (hB : RdB w w.heap.size A len) (hlen : len ≤ 4096)
    (hG : ∀ q W, SrcI W q A len cap → Calls Try.prog 44 #[.pointer (some ⟨q, 0, none⟩)] W (DrawnAb W q A len cap)) :
    Calls Try.prog 18 #[.slice A len cap] w (TwoAb w) := by
  have B1 : Blk ((w.alloc (.cells [.slice none 0 0, (.int .i64 0 : Value)].toArray 40)).alloc (.cells [.slice none 0 0, (.int .i64 0 : Value)].toArray 40)) w.heap.size [.slice none 0 0, (.int .i64 0 : Value)] 40 := (Blk.new w _ _).alloc _
  have B2 : Blk ((w.alloc (.cells [.slice none 0 0, (.int .i64 0 : Value)].toArray 40)).alloc (.cells [.slice none 0 0, (.int .i64 0 : Value)].toArray 40)) (w.heap.size + 1) [.slice none 0 0, (.int .i64 0 : Value)] 40 := by have := Blk.new (w.alloc (.cells [.slice none 0 0, (.int .i64 0 : Value)].toArray 40)) [.slice none 0 0, (.int .i64 0 : Value)] 40; rwa [World.size_alloc] at this
  have hB1 : RdB ((w.alloc (.cells [.slice none 0 0, (.int .i64 0 : Value)].toArray 40)).alloc (.cells [.slice none 0 0, (.int .i64 0 : Value)].toArray 40)) ((w.alloc (.cells [.slice none 0 0, (.int .i64 0 : Value)].toArray 40)).alloc (.cells [.slice none 0 0, (.int .i64 0 : Value)].toArray 40)).heap.size A len := fun j hj => by
    obtain ⟨g, o, b, h1, h2, h3, h4⟩ := ((hB.grown (row := none) (World.grownBy_alloc w (.cells [.slice none 0 0, (.int .i64 0 : Value)].toArray 40) none) (fun r e => by simp at e)).grown (row := none) (World.grownBy_alloc (w.alloc (.cells [.slice none 0 0, (.int .i64 0 : Value)].toArray 40)) (.cells [.slice none 0 0, (.int .i64 0 : Value)].toArray 40) none) (fun r e => by simp at e)) j hj
    exact ⟨g, o, b, h1, by simp; omega, h3, h4⟩
  have L1 : Below w.heap.size w ((w.alloc (.cells [.slice none 0 0, (.int .i64 0 : Value)].toArray 40)).alloc (.cells [.slice none 0 0, (.int .i64 0 : Value)].toArray 40)) := by go_grown
  have hF := Lib.hid (from_any A len cap ((w.alloc (.cells [.slice none 0 0, (.int .i64 0 : Value)].toArray 40)).alloc (.cells [.slice none 0 0, (.int .i64 0 : Value)].toArray 40)) hB1 hlen)
  have HG := Lib.hid hG
  clear hB hB1 hG
  go_enter Try.func18, Try.ntmps18
  go_wp2_with (fail)
  refine hF.out.mono ?_
  rintro e w1 ⟨rfl, hs1, hb1⟩
  replace B1 := B1.below hb1
  replace B2 := B2.below hb1
  replace L1 := bstep L1 L1.size hb1
  rw [World.size_alloc, World.size_alloc] at hs1
  have hq1 := hs1.lt
  have HG1 := Lib.hid (HG.out _ _ hs1)
  clear hF hb1 hs1
  go_wp2_with (fail)
  refine HG1.out.mono ?_
  rintro e w2 ⟨U1, c1, F1, K1, rfl, ho1, hl1, hs2, hc2⟩
  replace B1 := B1.chg hc2 (by omega)
  replace B2 := B2.chg hc2 (by omega)
  have hz2 := hc2.size
  have L2 := L1.trans (hc2.below (B := w.heap.size) (fun k g => by omega) (by omega))
  have HG2 := Lib.hid (HG.out _ _ hs2)
  have HO1 := Lib.hid ho1
  have hk1 : Hid (∀ k, (Value.slice U1 F1.length c1).ownBlock = some k → k < w2.heap.size) := Lib.hid fun k e => (World.ownsRow.lt ho1 k e).2
  clear HG HG1 hs2 hc2 L1 ho1
  go_wp2_with (fail)
  refine HG2.out.mono ?_
  rintro e w3 ⟨U2, c2, F2, K2, rfl, ho2, hl2, hs3, hc3⟩
  replace B1 := B1.chg hc3 (by omega)
  replace B2 := B2.chg hc3 (by omega)
  have hz3 := hc3.size
  replace HO1 := Lib.hid (OwnI.past HO1.out hc3 (fun k g => by omega))
  have L3 := L2.trans (hc3.below (B := w.heap.size) (fun k g => by omega) (by omega))
  have BA : Blk ((w3.alloc (.cells [.slice U1 F1.length c1, (.int .i64 K1 : Value)].toArray 40)).alloc (.cells [.slice U2 F2.length c2, (.int .i64 K2 : Value)].toArray 40)) w3.heap.size [.slice U1 F1.length c1, .int .i64 K1] 40 := (Blk.new w3 _ _).alloc _
  have BB : Blk ((w3.alloc (.cells [.slice U1 F1.length c1, (.int .i64 K1 : Value)].toArray 40)).alloc (.cells [.slice U2 F2.length c2, (.int .i64 K2 : Value)].toArray 40)) (w3.heap.size + 1) [.slice U2 F2.length c2, .int .i64 K2] 40 := by have := Blk.new (w3.alloc (.cells [.slice U1 F1.length c1, (.int .i64 K1 : Value)].toArray 40)) [.slice U2 F2.length c2, .int .i64 K2] 40; rwa [World.size_alloc] at this
  replace B1 := (B1.alloc (.cells [.slice U1 F1.length c1, (.int .i64 K1 : Value)].toArray 40)).alloc (.cells [.slice U2 F2.length c2, (.int .i64 K2 : Value)].toArray 40)
  replace B2 := (B2.alloc (.cells [.slice U1 F1.length c1, (.int .i64 K1 : Value)].toArray 40)).alloc (.cells [.slice U2 F2.length c2, (.int .i64 K2 : Value)].toArray 40)
  have HS4 := Lib.hid ((hs3.chg (S := fun _ => False) (chgS_alloc w3 (.cells [.slice U1 F1.length c1, (.int .i64 K1 : Value)].toArray 40)) (fun k h => h.elim)).chg (S := fun _ => False) (chgS_alloc (w3.alloc (.cells [.slice U1 F1.length c1, (.int .i64 K1 : Value)].toArray 40)) (.cells [.slice U2 F2.length c2, (.int .i64 K2 : Value)].toArray 40)) (fun k h => h.elim))
  have HO2 := Lib.hid ((ho2.alloc (.cells [.slice U1 F1.length c1, (.int .i64 K1 : Value)].toArray 40)).alloc (.cells [.slice U2 F2.length c2, (.int .i64 K2 : Value)].toArray 40))
  have hk2 : Hid (∀ k, (Value.slice U2 F2.length c2).ownBlock = some k → k < w3.heap.size) := Lib.hid fun k e => (World.ownsRow.lt ho2 k e).2
  replace HO1 := Lib.hid ((HO1.out.alloc (.cells [.slice U1 F1.length c1, (.int .i64 K1 : Value)].toArray 40)).alloc (.cells [.slice U2 F2.length c2, (.int .i64 K2 : Value)].toArray 40))
  have L4 := (L3.alloc (by omega) (.cells [.slice U1 F1.length c1, (.int .i64 K1 : Value)].toArray 40)).alloc (by simp; omega) (.cells [.slice U2 F2.length c2, (.int .i64 K2 : Value)].toArray 40)
  clear HG2 hs3 hc3 L2 L3 ho2
  go_wp2_with (fail)
  refine (nextS _ A len cap 2 _ HS4.out (by omega) (by omega)).mono ?_
  rintro e w5 ⟨r, rfl, ⟨r0, r1⟩, hs5, hc5⟩
  replace B1 := B1.chg hc5 (by omega)
  replace B2 := B2.chg hc5 (by omega)
  replace BA := BA.chg hc5 (by omega)
  replace BB := BB.chg hc5 (by omega)
  replace HO1 := Lib.hid (OwnI.past HO1.out hc5 (fun k g => by omega))
  replace HO2 := Lib.hid (OwnI.past HO2.out hc5 (fun k g => by omega))
  have L5 := L4.trans (hc5.below (B := w.heap.size) (fun k g => by omega) (by simp; omega))
  have HS5 := Lib.hid hs5
  have z5 := hc5.size
  rw [World.size_alloc, World.size_alloc] at z5
  clear HS4 hs5 hc5 L4
  by_cases hr : r = 0 ∧ 0 < F1.length
  · obtain ⟨rfl, hf⟩ := hr
    obtain ⟨aa, aa0, aa1⟩ := BA.c2
    have hf' : (0 : Int) < (F1.length : Int) := by omega
    have R1 := Lib.hid (spI.own_rd (spI_of HO1.out))
    go_wp2_with (fail)
    have hroom := HO1.out.roomD
    have HS6 := Lib.hid (HS5.out.chg (S := fun _ => False) (ChgS.of_grown (grown_drew w5 none) (fun k e => by simp at e)) (fun k h => h.elim))
    have HNX := Lib.hid (nextS _ A len cap (F1.length : Int) w5.drew HS6.out (by omega) (by omega))
    clear hk2 HS5 HO2 R1
    go_region_held3 (fun wx => wx.cell? ⟨w3.heap.size, 0, none⟩ = some (.slice U1 F1.length c1)) (first | assumption | go_keep) (first
      | (go_at_call 27; refine HNY.out.mono ?_; rintro e w8 ⟨r8, rfl, ⟨r80, r81⟩, hs8, hc8⟩; have z6 := hc6.size; have z7 := hb7.size; have BA8 := BA7.chg hc8 (by omega); obtain ⟨ba8, SM8, -⟩ := BA8.c2; have BB8 := ((BB.drew.chg hc6 (by omega)).below hb7).chg hc8 (by omega); obtain ⟨bb8, bb80, bb81⟩ := BB8.c2; have f80 := BB8.free 0; have f81 := BB8.free 1)
      | (go_at_call 45; refine HOW.out.mono ?_; rintro e w7 ⟨u7, S7, rfl, ow7, hS7, hb7⟩; obtain ⟨U7, c7, rfl, -, -⟩ := spI_form (spI.own_rd ow7); have BA7 := BA6.below hb7; obtain ⟨ba7, SM7, -⟩ := BA7.c2; have HS7 := Lib.hid (hs6.chg (S := fun _ => False) (ChgS.of_below hb7) (fun k h => h.elim)); have HNY := Lib.hid (nextS _ A len cap 2 w7 HS7.out (by omega) (by omega)))
      | (go_at_call 27; refine HNX.out.mono ?_; rintro e w6 ⟨r6, rfl, ⟨r60, r61⟩, hs6, hc6⟩; obtain ⟨n6, rfl⟩ := Int.eq_ofNat_of_zero_le r60; have BA6 := BA.drew.chg hc6 (by omega); obtain ⟨ba6, SM6, -⟩ := BA6.c2; have HO16 := Lib.hid (OwnI.past (w := w5.drew) HO1.out hc6 (fun k g => by omega)); have n6z : (0 : Int) ≤ (n6 : Int) := (by omega); have n6c : (n6 : Int) ≤ (F1.length : Int) := (by omega); obtain ⟨AD, hAD⟩ : ∃ AD, (if c1 = n6 then U1 else Option.map (fun x => x.add n6) U1) = AD := ⟨_, rfl⟩; have RD := spI_dropE (k := n6) (c' := c1 - n6) (spI.own_rd (spI_of HO16.out)) (by omega) hroom; rw [hAD] at RD; have HOW := Lib.hid (sOwn_any (.slice AD (F1.length - n6) (c1 - n6)) (F1.drop n6) w6 RD (by rw [List.length_drop]; omega))))
    rename_i hh
    have eG : F1.length - n6 = (F1.drop n6).length := by rw [List.length_drop]
    rw [eG]
    have O7 := own_up ow7 hS7
    have z5' : w5.heap.size ≤ w6.heap.size := z6
    clear hh HOW HNX HNY RD hAD SM6 SM7 SM8 eG bb80 bb81 f80 f81 aa0 aa1 ow7 hS7 HS6 HS7 hs6 hs8
    generalize F1.drop n6 = G2 at *
    have HO18 := OwnI.past (HO16.out.below hb7) hc8 (fun k g => by omega)
    have HO28 := OwnI.past O7 hc8 (fun k g => by omega)
    have B18 := ((B1.drew.chg hc6 (by omega)).below hb7).chg hc8 (by omega)
    have B28 := ((B2.drew.chg hc6 (by omega)).below hb7).chg hc8 (by omega)
    have L6 := (Below.drew L5).trans (hc6.below (B := w.heap.size) (fun k g => by omega) (by show w.heap.size ≤ w5.heap.size; omega))
    have L7 := bstep L6 L6.size hb7
    have L8 := L7.trans (hc8.below (B := w.heap.size) (fun k g => by omega) (by omega))
    have HO19 := Lib.hid ((HO18.setAt ⟨w3.heap.size + 1, 0, none⟩ (.slice U7 G2.length c7) (fun k e => by have := hk1.out k e; simp; omega)).setAt ⟨w3.heap.size + 1, 1, none⟩ (.int .i64 r8) (fun k e => by have := hk1.out k e; simp; omega))
    have HO29 := Lib.hid ((HO28.setAt ⟨w3.heap.size + 1, 0, none⟩ (.slice U7 G2.length c7) (fun k e => by have := (World.ownsRow.lt HO28 k e).1; simp; omega)).setAt ⟨w3.heap.size + 1, 1, none⟩ (.int .i64 r8) (fun k e => by have := (World.ownsRow.lt HO28 k e).1; simp; omega))
    have BA9 := (BA8.other (p := ⟨w3.heap.size + 1, 0, none⟩) (by simp) (.slice U7 G2.length c7)).other (p := ⟨w3.heap.size + 1, 1, none⟩) (by simp) (.int .i64 r8)
    have B19 := (B18.other (p := ⟨w3.heap.size + 1, 0, none⟩) (by simp; omega) (.slice U7 G2.length c7)).other (p := ⟨w3.heap.size + 1, 1, none⟩) (by simp; omega) (.int .i64 r8)
    have B29 := (B28.other (p := ⟨w3.heap.size + 1, 0, none⟩) (by simp; omega) (.slice U7 G2.length c7)).other (p := ⟨w3.heap.size + 1, 1, none⟩) (by simp; omega) (.int .i64 r8)
    have BB9 : Blk ((w8.setCell ⟨w3.heap.size + 1, 0, none⟩ (.slice U7 G2.length c7)).setCell ⟨w3.heap.size + 1, 1, none⟩ (.int .i64 r8)) (w3.heap.size + 1) [.slice U7 G2.length c7, .int .i64 r8] 40 := (BB8.set 0 (.slice U7 G2.length c7)).set 1 (.int .i64 r8)
    have L9 := (L8.setCell (p := ⟨w3.heap.size + 1, 0, none⟩) (by simp; omega) (.slice U7 G2.length c7)).setCell (p := ⟨w3.heap.size + 1, 1, none⟩) (by simp; omega) (.int .i64 r8)
    have z8 : w3.heap.size + 1 < w8.heap.size := bb8
    clear HO18 HO28 B18 B28 L6 L7 L8 BA8 BB8 BA7 BA6 hk1 hc6 hb7 hc8 O7 HO16 ba6 ba7 ba8 bb8 B1 B2 BA BB L5 HO1
    generalize (w8.setCell ⟨w3.heap.size + 1, 0, none⟩ (.slice U7 G2.length c7)).setCell ⟨w3.heap.size + 1, 1, none⟩ (.int .i64 r8) = w9 at *
    go_wp2_with (fail)
    obtain ⟨aa, aa0, aa1⟩ := BA9.c2
    obtain ⟨bb, bb0, bb1⟩ := BB9.c2
    obtain ⟨r1l, r10, r11⟩ := B19.c2
    obtain ⟨r2l, r20, r21⟩ := B29.c2
    have g10 := B19.free 0
    have g11 := B19.free 1
    have g20 := B29.free 0
    have g21 := B29.free 1
    have P1 := Lib.hid (rdAb_own (K := K1) ((((HO19.out.setAt ⟨w.heap.size, 0, none⟩ (.slice U1 F1.length c1) (fun k e => by have := (World.ownsRow.lt HO19.out k e).1; simp; omega)).setAt ⟨w.heap.size, 1, none⟩ (.int .i64 K1) (fun k e => by have := (World.ownsRow.lt HO19.out k e).1; simp; omega)).setAt ⟨w.heap.size + 1, 0, none⟩ (.slice U7 G2.length c7) (fun k e => by have := (World.ownsRow.lt HO19.out k e).1; simp; omega)).setAt ⟨w.heap.size + 1, 1, none⟩ (.int .i64 r8) (fun k e => by have := (World.ownsRow.lt HO19.out k e).1; simp; omega)))
    have P2 := Lib.hid (rdAb_own (K := r8) ((((HO29.out.setAt ⟨w.heap.size, 0, none⟩ (.slice U1 F1.length c1) (fun k e => by have := (World.ownsRow.lt HO29.out k e).1; simp; omega)).setAt ⟨w.heap.size, 1, none⟩ (.int .i64 K1) (fun k e => by have := (World.ownsRow.lt HO29.out k e).1; simp; omega)).setAt ⟨w.heap.size + 1, 0, none⟩ (.slice U7 G2.length c7) (fun k e => by have := (World.ownsRow.lt HO29.out k e).1; simp; omega)).setAt ⟨w.heap.size + 1, 1, none⟩ (.int .i64 r8) (fun k e => by have := (World.ownsRow.lt HO29.out k e).1; simp; omega)))
    have P3 := Lib.hid (Below.drew ((((L9.setCell (p := ⟨w.heap.size, 0, none⟩) (by simp) (.slice U1 F1.length c1)).setCell (p := ⟨w.heap.size, 1, none⟩) (by simp) (.int .i64 K1)).setCell (p := ⟨w.heap.size + 1, 0, none⟩) (by simp) (.slice U7 G2.length c7)).setCell (p := ⟨w.heap.size + 1, 1, none⟩) (by simp) (.int .i64 r8)))
    go_region
    go_wp2_with (fail)
    refine bodyPost_ret (v := .tuple #[.agg #[.slice U1 F1.length c1, .int .i64 K1], .agg #[.slice U7 G2.length c7, .int .i64 r8]]) (by simp [results, Try.results18, go_sem, r1l, r2l, r10, r11, r20, r21]) rfl ?_
    exact ⟨_, _, _, _, rfl, P1.out, P2.out, P3.out⟩
  · have T3 : ((r == 0) && decide (0 < F1.length)) = false := by
      by_cases h0 : r = 0
      · have : ¬ 0 < F1.length := fun h => hr ⟨h0, h⟩
        simp [this]
      · simp [h0]
    by_cases h0 : r = 0
    · subst h0
      have h1 : F1.length = 0 := by
        by_cases h : F1.length = 0
        · exact h
        · exact absurd ⟨rfl, by omega⟩ hr
      have h2 : ¬ ((0 : Int) < (F1.length : Int)) := by omega
      obtain ⟨aa, aa0, aa1⟩ := BA.c2
      clear T3
      go_wp2_with (fail)
      clear hk1 hk2 h1 h2 aa aa0 aa1
      obtain ⟨aa, aa0, aa1⟩ := BA.c2
      obtain ⟨bb, bb0, bb1⟩ := BB.c2
      obtain ⟨r1l, r10, r11⟩ := B1.c2
      obtain ⟨r2l, r20, r21⟩ := B2.c2
      have g10 := B1.free 0
      have g11 := B1.free 1
      have g20 := B2.free 0
      have g21 := B2.free 1
      have P1 := Lib.hid (rdAb_own (K := K1) ((((HO1.out.setAt ⟨w.heap.size, 0, none⟩ (.slice U1 F1.length c1) (fun k e => by have := (World.ownsRow.lt HO1.out k e).1; simp; omega)).setAt ⟨w.heap.size, 1, none⟩ (.int .i64 K1) (fun k e => by have := (World.ownsRow.lt HO1.out k e).1; simp; omega)).setAt ⟨w.heap.size + 1, 0, none⟩ (.slice U2 F2.length c2) (fun k e => by have := (World.ownsRow.lt HO1.out k e).1; simp; omega)).setAt ⟨w.heap.size + 1, 1, none⟩ (.int .i64 K2) (fun k e => by have := (World.ownsRow.lt HO1.out k e).1; simp; omega)))
      have P2 := Lib.hid (rdAb_own (K := K2) ((((HO2.out.setAt ⟨w.heap.size, 0, none⟩ (.slice U1 F1.length c1) (fun k e => by have := (World.ownsRow.lt HO2.out k e).1; simp; omega)).setAt ⟨w.heap.size, 1, none⟩ (.int .i64 K1) (fun k e => by have := (World.ownsRow.lt HO2.out k e).1; simp; omega)).setAt ⟨w.heap.size + 1, 0, none⟩ (.slice U2 F2.length c2) (fun k e => by have := (World.ownsRow.lt HO2.out k e).1; simp; omega)).setAt ⟨w.heap.size + 1, 1, none⟩ (.int .i64 K2) (fun k e => by have := (World.ownsRow.lt HO2.out k e).1; simp; omega)))
      have P3 := Lib.hid (Below.drew ((((L5.setCell (p := ⟨w.heap.size, 0, none⟩) (by simp) (.slice U1 F1.length c1)).setCell (p := ⟨w.heap.size, 1, none⟩) (by simp) (.int .i64 K1)).setCell (p := ⟨w.heap.size + 1, 0, none⟩) (by simp) (.slice U2 F2.length c2)).setCell (p := ⟨w.heap.size + 1, 1, none⟩) (by simp) (.int .i64 K2)))
      go_region
      go_wp2_with (fail)
      refine bodyPost_ret (v := .tuple #[.agg #[.slice U1 F1.length c1, .int .i64 K1], .agg #[.slice U2 F2.length c2, .int .i64 K2]]) (by simp [results, Try.results18, go_sem, r1l, r2l, r10, r11, r20, r21]) rfl ?_
      exact ⟨_, _, _, _, rfl, P1.out, P2.out, P3.out⟩
    · have T1 : (r == 0) = false := by simpa using h0
      obtain ⟨aa, aa0, aa1⟩ := BA.c2
      clear T3
      go_wp2_with (fail)
      clear hk1 hk2 aa aa0 aa1
      obtain ⟨aa, aa0, aa1⟩ := BA.c2
      obtain ⟨bb, bb0, bb1⟩ := BB.c2
      obtain ⟨r1l, r10, r11⟩ := B1.c2
      obtain ⟨r2l, r20, r21⟩ := B2.c2
      have g10 := B1.free 0
      have g11 := B1.free 1
      have g20 := B2.free 0
      have g21 := B2.free 1
      have P1 := Lib.hid (rdAb_own (K := K1) ((((HO1.out.setAt ⟨w.heap.size, 0, none⟩ (.slice U1 F1.length c1) (fun k e => by have := (World.ownsRow.lt HO1.out k e).1; simp; omega)).setAt ⟨w.heap.size, 1, none⟩ (.int .i64 K1) (fun k e => by have := (World.ownsRow.lt HO1.out k e).1; simp; omega)).setAt ⟨w.heap.size + 1, 0, none⟩ (.slice U2 F2.length c2) (fun k e => by have := (World.ownsRow.lt HO1.out k e).1; simp; omega)).setAt ⟨w.heap.size + 1, 1, none⟩ (.int .i64 K2) (fun k e => by have := (World.ownsRow.lt HO1.out k e).1; simp; omega)))
      have P2 := Lib.hid (rdAb_own (K := K2) ((((HO2.out.setAt ⟨w.heap.size, 0, none⟩ (.slice U1 F1.length c1) (fun k e => by have := (World.ownsRow.lt HO2.out k e).1; simp; omega)).setAt ⟨w.heap.size, 1, none⟩ (.int .i64 K1) (fun k e => by have := (World.ownsRow.lt HO2.out k e).1; simp; omega)).setAt ⟨w.heap.size + 1, 0, none⟩ (.slice U2 F2.length c2) (fun k e => by have := (World.ownsRow.lt HO2.out k e).1; simp; omega)).setAt ⟨w.heap.size + 1, 1, none⟩ (.int .i64 K2) (fun k e => by have := (World.ownsRow.lt HO2.out k e).1; simp; omega)))
      have P3 := Lib.hid (Below.drew ((((L5.setCell (p := ⟨w.heap.size, 0, none⟩) (by simp) (.slice U1 F1.length c1)).setCell (p := ⟨w.heap.size, 1, none⟩) (by simp) (.int .i64 K1)).setCell (p := ⟨w.heap.size + 1, 0, none⟩) (by simp) (.slice U2 F2.length c2)).setCell (p := ⟨w.heap.size + 1, 1, none⟩) (by simp) (.int .i64 K2)))
      go_region
      go_wp2_with (fail)
      refine bodyPost_ret (v := .tuple #[.agg #[.slice U1 F1.length c1, .int .i64 K1], .agg #[.slice U2 F2.length c2, .int .i64 K2]]) (by simp [results, Try.results18, go_sem, r1l, r2l, r10, r11, r20, r21]) rfl ?_
      exact ⟨_, _, _, _, rfl, P1.out, P2.out, P3.out⟩
end Go.Proofs.Ytpplojbcjgiabaa
