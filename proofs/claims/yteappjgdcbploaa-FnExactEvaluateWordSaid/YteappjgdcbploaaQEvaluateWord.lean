/- 'FnExactEvaluateWord': for every input the call of the law returns true, and what its arguments hold reads as it did. No conditions. -/
import Derived.Test.YteappjgdcbploaaKB
import Derived.Test.YteappjgdcbploaaShPres
import Derived.Test.YteappjgdcbploaaQA
import Derived.Test.YteappjgdcbploaaL10A
import Derived.Test.YteappjgdcbploaaL10C
import Derived.Test.YteappjgdcbploaaRows
import Derived.Deep.Slices
import Derived.Deep.RegionLaw
import Derived.Deep.RegionHeld3
import Derived.Deep.DeepCutAuto
import Derived.WalkKit
import Derived.ProofKit
import Derived.OpenShut
import Derived.ShutString
import Derived.ChangeOld
import Derived.Below
namespace Go.Proofs.Yteappjgdcbploaa.fnExactEvaluateWord
open Go.ChangeShapes Go.WideShapes Go.ChangeAt Go.RowKit
open Go.ChangeMaps (open_string shut_string)
set_option maxRecDepth 100000 in
theorem joined : joinedFacts Try.pinned.checked.prog 12 Try.f12 Rows.fnExactEvaluateWordSpec Rows.fnExactEvaluateWordRow = true := by kernel_rfl

end Go.Proofs.Yteappjgdcbploaa.fnExactEvaluateWord
namespace Go.Proofs.Yteappjgdcbploaa
open Go.RowKit Go.ChangeShapes Go.WideShapes Go.ChangeAt
set_option linter.unusedVariables false
set_option linter.unusedSimpArgs false

set_option maxRecDepth 100000 in
/-- What a slice of slices of int64 that came in says. -/
theorem open_lists {H : Type} {enc : TypeId × Value → H} {W : World} {base : Nat} {v : Value} {d : DataW H} {p : List MemPlace}
    (hv : Value.okWide Try.prog W .any base 23 v) (h : DataW.Trod enc Try.prog W 0 (fun _ => true) true 23 v d p) :
    ∃ (A : Option Addr) (cap : Nat) (xss : List (List Int)), v = .slice A xss.length cap ∧ RdII W A xss ∧ (∀ j, j < xss.length → (xss.getD j []).length ≤ maxLen) ∧ xss.length ≤ maxLen := by
  obtain ⟨a0, len0, cap0, rfl⟩ := okWide_slice Try.underlying23 hv
  obtain ⟨fuel, hf⟩ := h
  rcases Go.Deep.open_int_rows Try.underlying23 Try.underlying22 Try.underlying2 (by kernel_rfl) (by kernel_rfl) hf with ⟨hc, _⟩ | ⟨a, len, cap, A, L, C', Z, hc, _, hl, hm, _, hr⟩
  · simp [Value.cells] at hc
    obtain ⟨rfl, rfl, rfl⟩ := hc
    exact ⟨none, 0, [], rfl, fun j hj => by simp at hj, fun j hj => by simp at hj, by simp⟩
  · simp [Value.cells] at hc
    obtain ⟨rfl, rfl, rfl⟩ := hc
    refine ⟨some a, cap0, (List.range len0).map fun r => (Z r).take (L r), by simp, fun j hj => ?_, fun j hj => ?_, by simp; omega⟩
    · have hj' : j < len0 := by simpa using hj
      obtain ⟨h1, h2, h3, h4, h5, h6, h7⟩ := hr j (by omega)
      obtain ⟨b, o, rfl⟩ := plain_of (hr 0 (by omega)).1
      have hcell : W.cell? ⟨b, o + j, none⟩ = some (.slice (A j) (L j) (C' j)) := by rw [← Go.WideShapes.add_plain]; exact h1
      have hg : ((List.range len0).map fun r => (Z r).take (L r)).getD j [] = (Z j).take (L j) := by simp [hj']
      rw [hg]
      have hlen : ((Z j).take (L j)).length = L j := by simp; omega
      rw [hlen]
      refine ⟨b, o, A j, C' j, rfl, World.block_lt_of_cell? W _ hcell, hcell, fun i hi => ?_⟩
      rw [hlen] at hi
      cases hA : A j with
      | none => have := h6 hA; omega
      | some a' =>
        obtain ⟨_, hcc⟩ := h7 a' hA
        have hci := hcc i (by omega)
        obtain ⟨b', o', rfl⟩ := plain_of (hcc 0 (by omega))
        have hcell' : W.cell? ⟨b', o' + i, none⟩ = some (.int .i64 ((Z j).getD i 0)) := by rw [← Go.WideShapes.add_plain]; exact hci
        refine ⟨b', o', rfl, World.block_lt_of_cell? W _ hcell', ?_⟩
        rw [hcell']
        simp [List.getElem?_take, hi]
    · have hj' : j < len0 := by simpa using hj
      obtain ⟨h1, h2, h3, h4, h5, h6, h7⟩ := hr j (by omega)
      have hg : ((List.range len0).map fun r => (Z r).take (L r)).getD j [] = (Z j).take (L j) := by simp [hj']
      rw [hg]
      simp; omega
theorem rdLists_of {w : World} {A : Option Addr} {c : Nat} {xss : List (List Int)} (h : RdII w A xss ∧ (∀ j, j < xss.length → (xss.getD j []).length ≤ maxLen) ∧ xss.length ≤ maxLen) : spII.rd w (.slice A xss.length c) xss := by
  obtain ⟨h1, h2, h3⟩ := h
  refine ⟨A, c, rfl, h3, fun j hj => ?_⟩
  obtain ⟨g, o, B, cB, e, hg, hc, hr⟩ := h1 j hj
  exact ⟨g, o, _, e, hg, hc, B, cB, rfl, h2 j hj, hr⟩
end Go.Proofs.Yteappjgdcbploaa
namespace Go.Proofs.Yteappjgdcbploaa
open Go.RowKit Go.ChangeShapes Go.WideShapes Go.ChangeAt
set_option linter.unusedVariables false
set_option linter.unusedSimpArgs false

section
variable {H : Type} {enc : TypeId × Value → H} {W : World}
theorem choose_to {α : Type} {p : Nat → α → Prop} (d : α) {n : Nat} (h : ∀ i, i < n → ∃ x, p i x) : ∃ f : Nat → α, ∀ i, i < n → p i (f i) := by
  classical
  refine ⟨fun i => if hi : i < n then (h i hi).choose else d, fun i hi => ?_⟩
  simp only [hi, dif_pos]
  exact (h i hi).choose_spec
theorem trod_ints {fuel : Nat} {u : Value} {x : DataW H × List MemPlace} (h : DataW.trod enc Try.prog W 0 (fun _ => true) true fuel 22 [u] = some x) : ∃ xs, spI.rd W u xs := by
  rcases open_ints Try.underlying22 Try.underlying2 (by kernel_rfl) h with ⟨hcs, _⟩ | ⟨x, l, c, zs, hcs, _, hl, hm, hz, _, hcell, hwz⟩
  · simp at hcs
    subst hcs
    exact ⟨[], none, 0, rfl, by simp, fun j hj => by simp at hj⟩
  · simp at hcs
    subst hcs
    have hz' : zs.length = c := by simpa using hz
    have hlen : (zs.take l).length = l := by simp; omega
    refine ⟨zs.take l, some x, c, by rw [hlen], by rw [hlen]; omega, fun j hj => ?_⟩
    rw [hlen] at hj
    obtain ⟨b, o, rfl, hc⟩ := ints_at hcell (by omega)
    have h1 := hc j (by omega)
    refine ⟨b, o, rfl, World.block_lt_of_cell? W _ h1, ?_⟩
    rw [h1]
    simp [List.getElem?_take, hj]
theorem trod_list {α : Type} {s : Sp α} {nul : α} {E t e : TypeId} (ht : Try.prog.underlying t = some (.slice e)) (hc : Try.prog.cellsOf e = 1)
    (each : ∀ n u y, DataW.trod enc Try.prog W 0 (fun _ => true) true n e [u] = some y → ∃ x, s.rd W u x) {fuel : Nat} {u : Value} {x : DataW H × List MemPlace}
    (h : DataW.trod enc Try.prog W 0 (fun _ => true) true fuel t [u] = some x) : ∃ xs, (spL E s nul).rd W u xs := by
  rcases Go.Deep.open_slice1 ht hc h with ⟨hcs, _⟩ | ⟨a, len, cap, m, n, V, D, Pl, hcs, _, hl, hm, hmm, _, hx⟩
  · simp at hcs
    subst hcs
    exact ⟨[], none, 0, rfl, by simp, fun j hj => by simp at hj⟩
  · simp at hcs
    subst hcs
    simp only [if_true] at hmm
    have hmm' := hmm.symm
    subst hmm'
    obtain ⟨X, hX⟩ := choose_to (p := fun r y => s.rd W (V r) y) nul (fun r (hr : r < cap) => each _ _ _ (hx r hr).2)
    refine ⟨(List.range len).map X, some a, cap, by simp, by simp; omega, fun j hj => ?_⟩
    have hj' : j < len := by simpa using hj
    obtain ⟨b, o, rfl⟩ := plain_of (hx 0 (by omega)).1
    have hcell : W.cell? ⟨b, o + j, none⟩ = some (V j) := by rw [← Go.WideShapes.add_plain]; exact (hx j (by omega)).1
    refine ⟨b, o, V j, rfl, World.block_lt_of_cell? W _ hcell, hcell, ?_⟩
    have hg : ((List.range len).map X).getD j nul = X j := by simp [hj']
    rw [hg]
    exact hX j (by omega)
set_option maxRecDepth 100000 in
/-- What a presentation by value says. -/
theorem open_pres {base : Nat} {v : Value} {d : DataW H} {p : List MemPlace}
    (hv : Value.okWide Try.prog W .any base 26 v) (h : DataW.Trod enc Try.prog W 0 (fun _ => true) true 26 v d p) : ∃ x : Pres, spPres.rd W v x := by
  obtain ⟨c0, c1, c2, y0, y1, y2, m, rfl, _, _, hy0, hy1, hy2⟩ := Go.Joins.open_agg3 Try.underlying26 (by kernel_rfl) (by kernel_rfl) hv h
  obtain ⟨O, hO⟩ := trod_ints hy0
  obtain ⟨R, hR⟩ := trod_list (s := spI) (nul := []) (E := 22) Try.underlying23 (by kernel_rfl) (fun n u y hh => trod_ints hh) hy1
  obtain ⟨J, hJ⟩ := trod_list (s := spII) (nul := []) (E := 23) Try.underlying24 (by kernel_rfl) (fun n u y hh => trod_list (s := spI) (nul := []) (E := 22) Try.underlying23 (by kernel_rfl) (fun n u y hh => trod_ints hh) hh) hy2
  exact ⟨⟨O, R, J⟩, _, _, _, rfl, hO, hR, hJ⟩
end
end Go.Proofs.Yteappjgdcbploaa
namespace Go.Proofs.Yteappjgdcbploaa
open Go.RowKit
set_option linter.unusedVariables false
set_option linter.unusedSimpArgs false

def RdEl (w : World) (A : Option Addr) (tb : Nat) (ns : List Int) : Prop := ∀ j, j < ns.length → ∃ g, A = some ⟨g, 0, none⟩ ∧ g < w.heap.size ∧ w.cell? ⟨g, j * 2, none⟩ = some (.pointer (some ⟨tb, 0, none⟩)) ∧ w.cell? ⟨g, j * 2 + 1, none⟩ = some (.int .i64 (ns.getD j 0))
theorem RdEl.below {w w' : World} {A : Option Addr} {tb : Nat} {ns : List Int} (h : RdEl w A tb ns) (hb : Below w.heap.size w w') : RdEl w' A tb ns := fun j hj => by
  obtain ⟨g, e, hg, h1, h2⟩ := h j hj
  exact ⟨g, e, Nat.lt_of_lt_of_le hg hb.size, (hb.cell hg).trans h1, (hb.cell hg).trans h2⟩
theorem OwnEl.rd {tb : Nat} {w : World} {base : Nat} {A : Option Addr} {n c : Nat} {ns : List Int} (h : OwnEl tb w base (.slice A n c) ns) : RdEl w A tb ns := fun j hj => by
  obtain ⟨g, e, -, hg, hc⟩ := OwnM.at_ (elF_len tb) h hj
  refine ⟨g, e, hg, hc 0 (by omega), ?_⟩
  rw [hc 1 (by omega), List.getD_eq_getElem?_getD, List.getElem?_eq_getElem hj]
  rfl
set_option maxRecDepth 100000 in
set_option maxHeartbeats 4000000 in
theorem evaluate_any {O : List Int} {W : List (List Int)} {J : List (List (List Int))} {t : Tw} {w : World} (G : Gr O W J t w) (x : List Int) (A : Option Addr) (c : Nat) (imgs : List (List Int)) (B : Option Addr) (d : Nat) (hx : RdI w A x) (hxl : x.length ≤ 64) (hxw : ∀ j, j < x.length → x.getD j 0 ≠ 0 ∧ -(imgs.length : Int) ≤ x.getD j 0 ∧ x.getD j 0 ≤ imgs.length)
    (hi : RdEl w B t.tb (imgs.map (Num.numL (Num.tlL O W J 0)))) (hil : imgs.length ≤ 6) (hie : ∀ j, j < imgs.length → Num.El (Num.tlL O W J 0) (imgs.getD j [])) :
    Calls Try.prog 90 #[grV t.tb, .slice A x.length c, .slice B imgs.length d] w (RetE t.tb (Num.numL (Num.tlL O W J 0) (Num.evW (Num.tlL O W J 0) imgs (Num.zer O.length) x)) w) := by
  have n6 := G.V.n6
  have M := Num.Con.mon' G.V G.C
  rw [Nat.sub_zero] at M
  have HM := Lib.hid M
  have e0 : Num.numL (Num.tlL O W J 0) (Num.zer O.length) = 0 := by
    have := Num.numL_zer (Num.tlL O W J 0)
    rwa [Num.tlL_len, Nat.sub_zero] at this
  have E0 := Lib.hid e0
  have b0 : Below w.heap.size w ((w.alloc (.cells #[.pointer (some ⟨t.tb, 0, none⟩)] 65)).alloc (.cells #[.pointer none, .int .i64 0] 75)) := by go_grown
  have BX := (Blk.new w [.pointer (some ⟨t.tb, 0, none⟩)] 65).alloc (.cells #[.pointer none, .int .i64 0] 75)
  have BR : Blk ((w.alloc (.cells #[.pointer (some ⟨t.tb, 0, none⟩)] 65)).alloc (.cells #[.pointer none, .int .i64 0] 75)) (w.heap.size + 1) [.pointer none, .int .i64 0] 75 := by
    have := Blk.new (w.alloc (.cells #[.pointer (some ⟨t.tb, 0, none⟩)] 65)) [.pointer none, .int .i64 0] 75
    simpa using this
  generalize hW0 : (w.alloc (.cells #[.pointer (some ⟨t.tb, 0, none⟩)] 65)).alloc (.cells #[.pointer none, .int .i64 0] 75) = W0 at *
  have HG := Lib.hid (G.below b0)
  have HX := Lib.hid (hx.below' b0)
  have HXW := Lib.hid hxw
  have HI := Lib.hid (hi.below b0)
  have HIE := Lib.hid hie
  obtain ⟨xl, x0⟩ := BX.c1
  have HBR := Lib.hid BR
  have HID := Lib.hid (identity_any t.tb W0)
  obtain ⟨RES, hRES⟩ : ∃ R, R = Num.evW (Num.tlL O W J 0) imgs (Num.zer O.length) x := ⟨_, rfl⟩
  rw [← hRES]
  have HRES := Lib.hid hRES
  clear G hx hxw hi hie BX BR M e0 hRES
  unfold RetE at HID ⊢
  go_enter Try.func90, Try.ntmps90
  go_wp2_with (fail)
  clear hW0
  refine HID.out.mono ?_; rintro e w1 ⟨rfl, hb1⟩
  have bA : Below w1.heap.size w1 (w1.alloc (.cells #[.pointer (some ⟨t.tb, 0, none⟩), .int .i64 0] 75)) := by go_grown
  have B7 := Blk.new w1 [.pointer (some ⟨t.tb, 0, none⟩), .int .i64 0] 75
  have hz1 : W0.heap.size ≤ w1.heap.size := hb1.size
  have L2 := bstep hb1 hb1.size bA
  have HB7 := Lib.hid B7
  clear B7 bA hb1 HID x0
  go_wp2_with (fail)
  generalize hW2 : w1.alloc (.cells #[.pointer (some ⟨t.tb, 0, none⟩), .int .i64 0] 75) = W2 at *
  clear hW2
  generalize hb7 : w1.heap.size = b7 at *
  have hb7W : W0.heap.size ≤ b7 := by omega
  clear hb7
  go_loopw [9, 14] (fun _ s14 wr => ∃ (i : Nat) (p : List Int), s14 = .int .i64 (i : Int) ∧ i ≤ x.length ∧ Hid (Num.El (Num.tlL O W J 0) p) ∧ Hid (Num.evW (Num.tlL O W J 0) imgs p (x.drop i) = RES) ∧ Hid (Blk wr b7 [.pointer (some ⟨t.tb, 0, none⟩), .int .i64 (Num.numL (Num.tlL O W J 0) p)] 75) ∧ Below W0.heap.size W0 wr) (fun _ s14 _ => x.length - (intOf s14).toNat)
  case atStart => exact ⟨0, Num.zer O.length, rfl, by omega, Lib.hid HM.out.one, Lib.hid HRES.out.symm, by rw [E0.out]; exact HB7, L2⟩
  case round =>
    clear HB7 L2
    obtain ⟨i, p, rfl, hi, HP, HT, HB7, bel⟩ := hrel
    have Z := bel.size
    by_cases hlt : i < x.length
    · obtain ⟨g, o, rfl, hg, hc⟩ := (HX.out.below' bel) i hlt
      have i0 : (0 : Int) ≤ (i : Int) := by omega
      have i1 : (i : Int) < (x.length : Int) := by omega
      obtain ⟨z0, z1, z2⟩ := HXW.out i hlt
      have hdr := Num.drop_at (l := x) (i := i) hlt
      have hT := HT.out
      rw [hdr] at hT
      unfold Num.evW at hT
      obtain ⟨bl7, c70, c71⟩ := HB7.out.c2
      have HB7' := HB7
      generalize x.getD i 0 = z at *
      by_cases hpos : 0 < z
      · have hnn : ¬ z < 0 := by omega
        rw [if_pos hpos] at hT
        have hk : (z - 1).toNat < imgs.length := by omega
        obtain ⟨gi, rfl, hgi, m0, m1⟩ := (HI.out) (z - 1).toNat (by rw [List.length_map]; exact hk)
        have hgd : (imgs.map (Num.numL (Num.tlL O W J 0))).getD (z - 1).toNat 0 = Num.numL (Num.tlL O W J 0) (imgs.getD (z - 1).toNat []) := by
          rw [List.getD_eq_getElem?_getD, List.getElem?_map, List.getD_eq_getElem?_getD, List.getElem?_eq_getElem hk]; rfl
        rw [hgd] at m1
        have HEI := Lib.hid (HIE.out _ hk)
        have hw : IntKind.i64.wrap (z - 1) = z - 1 := IntWalk.i64_in _ (by omega)
        have hi0 : 0 ≤ z - 1 := by omega
        have hi0' : 1 ≤ z := by omega
        have hi1 : z - 1 < (imgs.length : Int) := by omega
        have n0 := (bel.cell hgi).trans m0
        have n1 := (bel.cell hgi).trans m1
        have HEM := Lib.hid (Num.El.mul HG.out.ok HP.out HEI.out)
        have HT2 := Lib.hid hT
        have HTM : Hid (∀ W', Below W0.heap.size W0 W' → _) := Lib.hid fun W' hb => elTimes_any (HG.out.below hb) p (imgs.getD (z - 1).toNat []) HP.out HEI.out
        unfold RetE at HTM
        generalize Num.mulL (Num.tlL O W J 0) p (imgs.getD (z - 1).toNat []) = p2 at *
        generalize Num.numL (Num.tlL O W J 0) (imgs.getD (z - 1).toNat []) = ni at *
        generalize hnp : Num.numL (Num.tlL O W J 0) p = np at *
        generalize hkk : (z - 1).toNat = kk at *
        clear hdr hT HT m0 m1 hgd hnp
        go_wp2_with (fail)
        go_region_law (first
          | (go_simp; go_at_call 66; refine (HTM.out _ (bel.trans (by go_grown))).mono ?_; rintro e w5 ⟨rfl, hb5⟩; have B5 : Below wr.heap.size wr w5 := bstep (by go_grown) (by go_size) hb5; have D5 := HB7'.out.below B5; obtain ⟨t7, d70, d71⟩ := D5.c2; obtain ⟨f70, f71, -⟩ := D5.f3))
        all_goals
          have LW := bstep bel Z B5
          have X7 := Lib.hid ((D5.set 0 (.pointer (some ⟨t.tb, 0, none⟩))).set 1 (.int .i64 (Num.numL (Num.tlL O W J 0) p2)))
          have LX := (LW.setCell (p := ⟨b7, 0, none⟩) hb7W (.pointer (some ⟨t.tb, 0, none⟩))).setCell (p := ⟨b7, 1, none⟩) hb7W (.int .i64 (Num.numL (Num.tlL O W J 0) p2))
          clear d70 d71 f70 f71 D5
          go_wp2_with (fail)
          exact ⟨⟨i + 1, p2, by go_num, by omega, HEM, HT2, X7, LX⟩, by simp [intOf]; omega⟩
      · have hneg : z < 0 := by omega
        rw [if_neg hpos] at hT
        have hk : (-z - 1).toNat < imgs.length := by omega
        obtain ⟨gi, rfl, hgi, m0, m1⟩ := (HI.out) (-z - 1).toNat (by rw [List.length_map]; exact hk)
        have hgd : (imgs.map (Num.numL (Num.tlL O W J 0))).getD (-z - 1).toNat 0 = Num.numL (Num.tlL O W J 0) (imgs.getD (-z - 1).toNat []) := by
          rw [List.getD_eq_getElem?_getD, List.getElem?_map, List.getD_eq_getElem?_getD, List.getElem?_eq_getElem hk]; rfl
        rw [hgd] at m1
        have HEI := Lib.hid (HIE.out _ hk)
        have HEV := Lib.hid (Num.inv_El HG.out.ok HEI.out)
        have hw0 : IntKind.i64.wrap (-z) = -z := IntWalk.i64_in _ (by omega)
        have hw : IntKind.i64.wrap (-z - 1) = -z - 1 := IntWalk.i64_in _ (by omega)
        have hi0 : 0 ≤ -z - 1 := by omega
        have hi0' : 1 ≤ -z := by omega
        have hi1 : -z - 1 < (imgs.length : Int) := by omega
        have n0 := (bel.cell hgi).trans m0
        have n1 := (bel.cell hgi).trans m1
        have HEM := Lib.hid (Num.El.mul HG.out.ok HP.out HEV.out)
        have HT2 := Lib.hid hT
        have HIV : Hid (∀ W', Below W0.heap.size W0 W' → _) := Lib.hid fun W' hb => inverse_any (HG.out.below hb) (imgs.getD (-z - 1).toNat []) HEI.out
        have HTM : Hid (∀ W', Below W0.heap.size W0 W' → _) := Lib.hid fun W' hb => elTimes_any (HG.out.below hb) p (Num.invL (Num.tlL O W J 0) (imgs.getD (-z - 1).toNat [])) HP.out HEV.out
        unfold RetE at HTM HIV
        generalize Num.mulL (Num.tlL O W J 0) p (Num.invL (Num.tlL O W J 0) (imgs.getD (-z - 1).toNat [])) = p2 at *
        generalize Num.invL (Num.tlL O W J 0) (imgs.getD (-z - 1).toNat []) = iv at *
        generalize Num.numL (Num.tlL O W J 0) (imgs.getD (-z - 1).toNat []) = ni at *
        generalize Num.numL (Num.tlL O W J 0) iv = nv at *
        generalize hnp : Num.numL (Num.tlL O W J 0) p = np at *
        generalize hkk : (-z - 1).toNat = kk at *
        clear hdr hT HT m0 m1 hgd hnp
        go_wp2_with (fail)
        go_region_law (first
          | (go_simp; go_at_call 66; refine (HTM.out _ (LB5.trans (by first | exact Below.refl _ _ | go_grown))).mono ?_; rintro e w6 ⟨rfl, hb6⟩; have B6 : Below wr.heap.size wr w6 := bstep (B5.trans (by first | exact Below.refl _ _ | go_grown)) (by first | exact B5.size | (have := B5.size; go_size)) hb6; have D6 := HB7'.out.below B6; obtain ⟨t7', e70, e71⟩ := D6.c2; obtain ⟨f70, f71, -⟩ := D6.f3)
          | (go_simp; go_at_call 69; refine (HIV.out _ (bel.trans (by go_grown))).mono ?_; rintro e w5 ⟨rfl, hb5⟩; have B5 : Below wr.heap.size wr w5 := bstep (by go_grown) (by go_size) hb5; have LB5 : Below W0.heap.size W0 w5 := bstep bel Z B5; have D5 := HB7'.out.below B5; obtain ⟨t7, d70, d71⟩ := D5.c2))
        all_goals
          have LW := bstep bel Z B6
          have X7 := Lib.hid ((D6.set 0 (.pointer (some ⟨t.tb, 0, none⟩))).set 1 (.int .i64 (Num.numL (Num.tlL O W J 0) p2)))
          have LX := (LW.setCell (p := ⟨b7, 0, none⟩) hb7W (.pointer (some ⟨t.tb, 0, none⟩))).setCell (p := ⟨b7, 1, none⟩) hb7W (.int .i64 (Num.numL (Num.tlL O W J 0) p2))
          clear d70 d71 e70 e71 f70 f71 D5 D6
          go_wp2_with (fail)
          exact ⟨⟨i + 1, p2, by go_num, by omega, HEM, HT2, X7, LX⟩, by simp [intOf]; omega⟩
    · have hge : ¬ ((i : Int) < (x.length : Int)) := by omega
      obtain rfl : i = x.length := by omega
      have HF : Hid (p = RES) := Lib.hid (by
        have := HT.out
        rw [List.drop_of_length_le (Nat.le_refl _)] at this
        exact this)
      have BR := HBR.out.below bel
      obtain ⟨rl, r0, r1⟩ := BR.c2
      obtain ⟨f0, f1, -⟩ := BR.f3
      obtain ⟨bl7, c70, c71⟩ := HB7.out.c2
      clear HT
      go_wp2_with (fail)
      refine bodyPost_ret (v := elV t.tb (Num.numL (Num.tlL O W J 0) p)) (by simp [results, Try.results90, go_sem, rl, r0, r1]) rfl ⟨by rw [HF.out], ?_⟩
      exact ((bstep b0 b0.size bel).setCell (p := ⟨w.heap.size + 1, 0, none⟩) (by show w.heap.size ≤ w.heap.size + 1; omega) _).setCell (p := ⟨w.heap.size + 1, 1, none⟩) (by show w.heap.size ≤ w.heap.size + 1; omega) _
theorem evs_parts (p : Pres) (x : List Int) (imgs : List (List Int)) : p.evs x imgs = (rEls p imgs && Num.isW imgs.length x) := by
  unfold Pres.evs rEls Num.isW
  have : decide ((0 : Int) ≤ (imgs.length : Int) ∧ (imgs.length : Int) ≤ 6) = decide (imgs.length ≤ 6) := decide_eq_decide.mpr (by omega)
  rw [this]
  cases p.con <;> cases p.els imgs <;> cases Num.isWB (imgs.length : Int) x <;> simp
theorem isW_out {k : Int} {x : List Int} (h : Num.isW k x = true) : k ≤ 6 ∧ x.length ≤ 64 ∧ ∀ j, j < x.length → x.getD j 0 ≠ 0 ∧ -k ≤ x.getD j 0 ∧ x.getD j 0 ≤ k := by
  unfold Num.isW at h
  simp only [Bool.and_eq_true, decide_eq_true_eq] at h
  obtain ⟨⟨-, h1⟩, h2⟩ := h
  obtain ⟨h3, h4⟩ := Num.isWB_iff.mp h2
  refine ⟨h1, h3, fun j hj => ?_⟩
  rw [List.getD_eq_getElem?_getD, List.getElem?_eq_getElem hj]
  exact h4 _ (List.getElem_mem hj)
theorem mem_getD {x : List Int} {k : Int} (h : ∀ j, j < x.length → x.getD j 0 ≠ 0 ∧ -k ≤ x.getD j 0 ∧ x.getD j 0 ≤ k) : ∀ z ∈ x, z ≠ 0 ∧ -k ≤ z ∧ z ≤ k := fun z hz => by
  obtain ⟨j, hj, rfl⟩ := List.mem_iff_getElem.mp hz
  have := h j hj
  rwa [List.getD_eq_getElem?_getD, List.getElem?_eq_getElem hj] at this
set_option maxRecDepth 100000 in
set_option maxHeartbeats 4000000 in
theorem iEvaluateWord_ok (v0 : Value) (p : Pres) (v1 : Value) (x : List Int) (v2 : Value) (imgs : List (List Int)) (w : World) (h0 : PresC w v0 p) (h1 : spI.rd w v1 x) (h2 : spII.rd w v2 imgs) (s0 : spPres.sz p ≤ 1048576) (s1 : spI.sz x ≤ 1048576) (s2 : spII.sz imgs ≤ 1048576) :
    Calls Try.prog 45 #[v0, v1, v2] w (MadeC spI (rEvaluateWord p x imgs) (cEvaluateWord p x imgs) w) := by
  have h0' := h0
  obtain ⟨A0, c0, A1, c1, A2, c2, rfl, -, m0, -, -, -⟩ := h0
  obtain ⟨B, d, rfl, hl, hB⟩ := h1
  obtain ⟨D, dd, rfl, -⟩ := id h2
  obtain ⟨-, hlD, hD⟩ := RdW.of h2
  have b0 : Below w.heap.size w (w.alloc (.cells #[.slice A0 p.O.length c0, .slice A1 p.W.length c1, .slice A2 p.J.length c2] 29)) := by go_grown
  generalize hW0 : w.alloc (.cells #[.slice A0 p.O.length c0, .slice A1 p.W.length c1, .slice A2 p.J.length c2] 29) = W0 at *
  have BX : Blk W0 w.heap.size [.slice A0 p.O.length c0, .slice A1 p.W.length c1, .slice A2 p.J.length c2] 29 := by rw [← hW0]; exact Blk.new w _ _
  have HW := Lib.hid (isWord_any (imgs.length : Int) B d x W0 (hB.below' b0) hl)
  have hlD' := hlD
  unfold maxLen at hlD'
  have hkw : IntKind.i64.wrap (imgs.length : Int) = (imgs.length : Int) := IntWalk.i64_in _ (by omega)
  obtain ⟨bl, y0, y1, y2⟩ := BX.c3
  have HEV := Lib.hid (evs_parts p x imgs)
  cases hw : Num.isW (imgs.length : Int) x with
  | true =>
    rw [hw] at HW
    obtain ⟨k6, x64, hxw⟩ := isW_out hw
    have HC := Lib.hid (elementsOf_any _ p D dd imgs W0 (h0'.below b0) (hD.below' b0) (by omega))
    cases hk : rEls p imgs with
    | true =>
      rw [cEls_yes hk] at HC
      have HE1 : Hid (p.evs x imgs = true) := Lib.hid (by rw [HEV.out, hk, hw]; rfl)
      have hc : p.con = true := by unfold rEls at hk; simp only [Bool.and_eq_true] at hk; exact hk.1
      have he : p.els imgs = true := by unfold rEls at hk; simp only [Bool.and_eq_true] at hk; exact hk.2
      obtain ⟨V, C⟩ := Pres.con_Con hc
      have HIE : Hid (∀ j, j < imgs.length → Num.El p.L (imgs.getD j [])) := Lib.hid fun j hj => (Pres.el_out (Pres.els_at he hj)).2
      have HEE : Hid (Num.El p.L (Num.evW p.L imgs (Num.zer p.O.length) x)) := Lib.hid (Num.evW_El (V.ok 0) x (by have := Num.zer_El (V.ok 0); rwa [Num.tlL_len, Nat.sub_zero] at this) (mem_getD hxw) HIE.out)
      have HR : Hid (rEvaluateWord p x imgs = Num.evW p.L imgs (Num.zer p.O.length) x ∧ cEvaluateWord p x imgs = 0) := Lib.hid ⟨if_pos HE1.out, if_pos HE1.out⟩
      have HXB : Hid (∀ W', Below w.heap.size w W' → RdI W' B x) := Lib.hid fun W' hb => hB.below' hb
      have HXW := Lib.hid hxw
      have HHK : Hid (rEls p imgs = true) := Lib.hid hk
      clear h0' h2 hB hD hw hk hxw BX he hc
      go_enter Try.func45, Try.ntmps45
      go_wp2_with (fail)
      clear hW0
      refine HW.out.mono ?_; rintro e w9 ⟨rfl, rfl⟩
      go_wp2_with (fail)
      refine HC.out.mono ?_; rintro e w1 ⟨q, ev, rfl, hb1, hT⟩
      obtain ⟨t, rfl, GS, O1⟩ := hT HHK.out
      have bA : Below w1.heap.size w1 (w1.alloc (.cells #[.pointer (some ⟨t.tb, 0, none⟩)] 65)) := by go_grown
      have BN := Blk.new w1 [.pointer (some ⟨t.tb, 0, none⟩)] 65
      have L := bstep (bstep b0 b0.size hb1) (by have := b0.size; have := hb1.size; omega) bA
      have HG := Lib.hid (GS.below bA).G
      obtain ⟨AE, cE, rfl, -⟩ := O1.form
      have HRE := Lib.hid (O1.rd.below bA)
      rw [List.length_map]
      clear hT GS HC hb1 y0 y1 y2 O1
      generalize hW2 : w1.alloc (.cells #[.pointer (some ⟨t.tb, 0, none⟩)] 65) = W2 at *
      obtain ⟨nl, n0⟩ := BN.c1
      have HEVA := Lib.hid (evaluate_any HG.out x B d imgs AE cE (HXB.out _ L) x64 HXW.out HRE.out (by omega) HIE.out)
      have HVC : Hid (∀ W', Below W2.heap.size W2 W' → _) := Lib.hid fun W' hb => vector_any (HG.out.below hb) _ HEE.out
      have HLN := Lib.hid (el_len V HEE.out)
      unfold RetE at HEVA
      generalize Num.evW p.L imgs (Num.zer p.O.length) x = z at *
      clear BN V C
      go_wp2_with (fail)
      refine HEVA.out.mono ?_; rintro e w3 ⟨rfl, hb3⟩
      have L3 := bstep L L.size hb3
      have HV3 := Lib.hid (HVC.out w3 hb3)
      go_wp2_with (fail)
      refine HV3.out.mono ?_; rintro e w4 ⟨u, rfl, own, hb4⟩
      go_wp2_with (fail)
      go_ret2
      rw [HR.out.1, HR.out.2]
      exact MadeC.list (own.base_ L3.size) HLN.out (bstep L3 L3.size hb4)
    | false =>
      rw [cEls_no hk] at HC
      have HE1 : Hid (p.evs x imgs = false) := Lib.hid (by rw [HEV.out, hk]; rfl)
      have HR : Hid (rEvaluateWord p x imgs = [] ∧ cEvaluateWord p x imgs = 1) := Lib.hid ⟨if_neg (by rw [HE1.out]; simp), if_neg (by rw [HE1.out]; simp)⟩
      clear h0' h2 hB hD hw hk hxw BX
      go_enter Try.func45, Try.ntmps45
      go_wp2_with (fail)
      clear hW0
      refine HW.out.mono ?_; rintro e w9 ⟨rfl, rfl⟩
      go_wp2_with (fail)
      refine HC.out.mono ?_; rintro e w1 ⟨q, ev, rfl, hb1, -⟩
      have bA : Below w1.heap.size w1 (w1.alloc (.cells #[.pointer q] 65)) := by go_grown
      have L := bstep (bstep b0 b0.size hb1) (by have := b0.size; have := hb1.size; omega) bA
      go_wp2_with (fail)
      go_ret2
      rw [HR.out.1, HR.out.2]
      exact MadeC.nilW L
  | false =>
    rw [hw] at HW
    have HE1 : Hid (p.evs x imgs = false) := Lib.hid (by rw [HEV.out, hw]; simp)
    have HR : Hid (rEvaluateWord p x imgs = [] ∧ cEvaluateWord p x imgs = 1) := Lib.hid ⟨if_neg (by rw [HE1.out]; simp), if_neg (by rw [HE1.out]; simp)⟩
    clear h0' h2 hB hD hw BX
    go_enter Try.func45, Try.ntmps45
    go_wp2_with (fail)
    clear hW0
    refine HW.out.mono ?_; rintro e w9 ⟨rfl, rfl⟩
    go_wp2_with (fail)
    go_ret2
    rw [HR.out.1, HR.out.2]
    exact MadeC.nilW b0
end Go.Proofs.Yteappjgdcbploaa
namespace Go.Proofs.Yteappjgdcbploaa
open Go.RowKit
set_option linter.unusedVariables false
set_option linter.unusedSimpArgs false

theorem Pres.els_no' {p : Pres} {xs : List (List Int)} {j : Nat} (hj : j < xs.length) (h : p.el (xs.getD j []) = false) : p.els xs = false := by
  cases hk : p.els xs with
  | false => rfl
  | true => rw [Pres.els_at hk hj] at h; cases h
theorem Pres.els_yes' {p : Pres} {xs : List (List Int)} (h : ∀ j, j < xs.length → p.el (xs.getD j []) = true) : p.els xs = true := by
  unfold Pres.els
  rw [List.all_eq_true]
  intro x hx
  obtain ⟨j, hj, rfl⟩ := List.mem_iff_getElem.mp hx
  have := h j hj
  rwa [List.getD_eq_getElem?_getD, List.getElem?_eq_getElem hj] at this
theorem Pres.gps_con {p : Pres} (h : p.con = true) : ∀ j, j < p.O.length → 1 ≤ p.O.getD j 0 ∧ p.O.getD j 0 ≤ 7 := fun j hj => by
  have := (Pres.con_Con h).1.ob j hj
  omega
set_option maxRecDepth 100000 in
set_option maxHeartbeats 4000000 in
theorem sEls_any (v : Value) (p : Pres) (A : Option Addr) (c : Nat) (xs : List (List Int)) (w : World) (h : spPres.rd w v p) (hx : RdW w A xs) (hl : xs.length ≤ 1000000) (hg : ∀ j, j < p.O.length → 1 ≤ p.O.getD j 0 ∧ p.O.getD j 0 ≤ 7) :
    Calls Try.prog 86 #[v, .slice A xs.length c] w (RetB (p.els xs) w) := by
  have h' := h
  obtain ⟨A0, c0, A1, c1, A2, c2, rfl, -, m0, -, -⟩ := pres_open h
  have b0 : Below w.heap.size w (w.alloc (.cells #[.slice A0 p.O.length c0, .slice A1 p.W.length c1, .slice A2 p.J.length c2] 29)) := by go_grown
  have BX := Blk.new w [.slice A0 p.O.length c0, .slice A1 p.W.length c1, .slice A2 p.J.length c2] 29
  generalize hW0 : w.alloc (.cells #[.slice A0 p.O.length c0, .slice A1 p.W.length c1, .slice A2 p.J.length c2] 29) = W0 at *
  have HBX := Lib.hid BX
  have HX := Lib.hid (hx.below' b0)
  have HEL : Hid (∀ (W' : World) (B : Option Addr) (d : Nat) (x : List Int), Below W0.heap.size W0 W' → RdI W' B x → x.length ≤ maxLen → Calls Try.prog 60 #[.agg #[.slice A0 p.O.length c0, .slice A1 p.W.length c1, .slice A2 p.J.length c2], .slice B x.length d] W' (RetB (p.el x) W')) := Lib.hid fun W' B d x hb hr hl => sEl_any _ p B d x W' (spPres.rd_below h' (bstep b0 b0.size hb)) hr hl hg
  clear h h' hx BX
  go_enter Try.func86, Try.ntmps86
  go_wp2_with (fail)
  clear hW0
  go_loopw [5] (fun s5 wr => ∃ i : Nat, i ≤ xs.length ∧ s5 = .int .i64 (i : Int) ∧ Hid (∀ j, j < i → p.el (xs.getD j []) = true) ∧ Below W0.heap.size W0 wr) (fun s5 _ => xs.length - (intOf s5).toNat)
  case atStart => exact ⟨0, by omega, rfl, Lib.hid fun j hj => by omega, Below.refl _ _⟩
  case round =>
    obtain ⟨i, hi, rfl, HE, bel⟩ := hrel
    by_cases hlt : i < xs.length
    · obtain ⟨g, o, B, d, rfl, hg2, hc, hlv, hrv⟩ := (HX.out.below' bel) i hlt
      obtain ⟨bl, y0, y1, y2⟩ := (HBX.out.below bel).c3
      have i0 : (0 : Int) ≤ (i : Int) := by omega
      have i1 : (i : Int) < (xs.length : Int) := by omega
      have hw : IntKind.i64.wrap ((i : Int) + 1) = ((i + 1 : Nat) : Int) := by rw [IntWalk.i64_in _ (by omega)]; omega
      have HC := Lib.hid (HEL.out wr.drew B d _ bel.drew (hrv.below' (Below.refl _ _).drew) hlv)
      have KX : ∀ {W'}, Below wr.heap.size wr W' → (W'.cell? ⟨w.heap.size, 0, none⟩ = some (.slice A0 p.O.length c0) ∧ W'.cell? ⟨w.heap.size, 1, none⟩ = some (.slice A1 p.W.length c1) ∧ W'.cell? ⟨w.heap.size, 2, none⟩ = some (.slice A2 p.J.length c2)) ∧ W'.cell? ⟨g, o + i, none⟩ = some (.slice B (xs.getD i []).length d) := fun {W'} hb => by
        obtain ⟨-, a0, a1, a2⟩ := (HBX.out.below (bstep bel bel.size hb)).c3
        exact ⟨⟨a0, a1, a2⟩, (hb.cell hg2).trans hc⟩
      have HN : Hid (p.el (xs.getD i []) = false → p.els xs = false) := Lib.hid fun h => Pres.els_no' hlt h
      have HS : Hid (p.el (xs.getD i []) = true → ∀ j, j < i + 1 → p.el (xs.getD j []) = true) := Lib.hid fun he j hj => by
        by_cases e : j = i
        · rw [e]; exact he
        · exact HE.out j (by omega)
      unfold RetB at HC
      generalize hq : p.el (xs.getD i []) = q at *
      generalize xs.getD i [] = row at *
      clear HE hrv hlv hq
      go_wp2_with (fail)
      go_region_held3 (fun wx => (wx.cell? ⟨w.heap.size, 0, none⟩ = some (.slice A0 p.O.length c0) ∧ wx.cell? ⟨w.heap.size, 1, none⟩ = some (.slice A1 p.W.length c1) ∧ wx.cell? ⟨w.heap.size, 2, none⟩ = some (.slice A2 p.J.length c2)) ∧ wx.cell? ⟨g, o + i, none⟩ = some (.slice B row.length d)) (first | assumption | go_keep) (first
        | (go_at_call 60; (with_reducible refine HC.out.mono ?_); rintro e w5 ⟨rfl, hb5⟩; have L5 : Below wr.heap.size wr w5 := (Below.refl _ _).drew.trans hb5; have SM5 := KX L5))
      all_goals
        have LB := bstep bel bel.size L5
        clear SM5 y0 y1 y2 KX HC
        cases q with
        | true =>
          have HS2 := Lib.hid (HS.out rfl)
          go_wp2_with (fail)
          exact ⟨⟨i + 1, by omega, rfl, HS2, LB⟩, by simp [intOf]; omega⟩
        | false =>
          have HF := Lib.hid (HN.out rfl)
          go_wp2_with (fail)
          go_ret
          exact ⟨ret_b HF.out.symm, bstep b0 b0.size LB⟩
    · have hge : ¬ ((i : Int) < (xs.length : Int)) := by omega
      obtain rfl : i = xs.length := by omega
      have HT := Lib.hid (Pres.els_yes' HE.out)
      go_wp2_with (fail)
      go_ret
      exact ⟨ret_b HT.out.symm, bstep b0 b0.size bel⟩
set_option maxRecDepth 100000 in
set_option maxHeartbeats 4000000 in
theorem sEval_any {A0 A1 A2 : Option Addr} {c0 c1 c2 : Nat} {O : List Int} {W : List (List Int)} {J : List (List (List Int))} (V : Num.Val O W J) (C : Num.Con (Num.tlL O W J 0)) (w : World) (x : List Int) (A : Option Addr) (ca : Nat) (imgs : List (List Int)) (B : Option Addr) (cb : Nat) (hP : RdP A0 A1 A2 O W J w) (hx : RdI w A x) (hxl : x.length ≤ 64) (hxw : ∀ j, j < x.length → x.getD j 0 ≠ 0 ∧ -(imgs.length : Int) ≤ x.getD j 0 ∧ x.getD j 0 ≤ imgs.length)
    (hi : RdW w B imgs) (hil : imgs.length ≤ 6) (hie : ∀ j, j < imgs.length → Num.El (Num.tlL O W J 0) (imgs.getD j [])) :
    Calls Try.prog 88 #[prV A0 A1 A2 c0 c1 c2 O, .slice A x.length ca, .slice B imgs.length cb] w (VecO O (Num.evW (Num.tlL O W J 0) imgs (Num.zer O.length) x) w) := by
  have n6 := V.n6
  have HV := Lib.hid V
  have b0 : Below w.heap.size w (w.alloc (.cells #[.slice A0 O.length c0, .slice A1 O.length c1, .slice A2 O.length c2] 29)) := by go_grown
  have BX := Blk.new w [.slice A0 O.length c0, .slice A1 O.length c1, .slice A2 O.length c2] 29
  generalize hW0 : w.alloc (.cells #[.slice A0 O.length c0, .slice A1 O.length c1, .slice A2 O.length c2] 29) = W0 at *
  have HBX := Lib.hid BX
  have HPW : Hid (∀ W', Below W0.heap.size W0 W' → RdP A0 A1 A2 O W J W' ∧ RdI W' A x ∧ RdW W' B imgs) := Lib.hid fun W' hb' => by
    have hb := bstep b0 b0.size hb'
    exact ⟨⟨hP.1.below' hb, hP.2.1.below' hb, hP.2.2.below' hb⟩, hx.below' hb, hi.below' hb⟩
  have HXW := Lib.hid hxw
  have HIE := Lib.hid hie
  have HLEN : Hid (∀ z, Num.El (Num.tlL O W J 0) z → z.length = O.length) := Lib.hid fun z hz => by have := hz.len; rw [Num.tlL_len] at this; omega
  have HONE := Lib.hid (sOne_any (A0 := A0) (A1 := A1) (A2 := A2) (c0 := c0) (c1 := c1) (c2 := c2) (W := W) (J := J) (O := O) (by omega) W0)
  have HZE : Hid (Num.El (Num.tlL O W J 0) (Num.zer O.length)) := Lib.hid (by have := Num.zer_El (V.ok 0); rwa [Num.tlL_len, Nat.sub_zero] at this)
  obtain ⟨RES, hRES⟩ : ∃ R, R = Num.evW (Num.tlL O W J 0) imgs (Num.zer O.length) x := ⟨_, rfl⟩
  rw [← hRES]
  have HRES := Lib.hid hRES
  obtain ⟨bl, y0, y1, y2⟩ := BX.c3
  unfold VecO at HONE ⊢
  clear hP hx hxw hi hie V BX hRES
  go_enter Try.func88, Try.ntmps88
  go_wp2_with (fail)
  clear hW0
  refine HONE.out.mono ?_; rintro e w1 ⟨A1', c1', rfl, ow1, hb1⟩
  have OW1 := Lib.hid (ow1.base_ b0.size)
  clear ow1 HONE y0 y1 y2
  go_wp2_with (fail)
  go_loopw [7, 8] (fun s7 s8 wr => ∃ (i : Nat) (q : List Int) (D : Option Addr) (d : Nat), s8 = .int .i64 (i : Int) ∧ s7 = .slice D O.length d ∧ i ≤ x.length ∧ Hid (Num.El (Num.tlL O W J 0) q) ∧ Hid (Num.evW (Num.tlL O W J 0) imgs q (x.drop i) = RES) ∧ Hid (OwnI wr w.heap.size (.slice D O.length d) q) ∧ Below W0.heap.size W0 wr) (fun _ s8 _ => x.length - (intOf s8).toNat)
  case atStart => exact ⟨0, Num.zer O.length, A1', c1', rfl, rfl, by omega, HZE, Lib.hid HRES.out.symm, OW1, hb1⟩
  case round =>
    clear OW1 hb1
    obtain ⟨i, q, D, d, rfl, rfl, hi, HQ, HT, own, bel⟩ := hrel
    have Z := bel.size
    obtain ⟨bl, y0, y1, y2⟩ := (HBX.out.below bel).c3
    by_cases hlt : i < x.length
    · obtain ⟨g, o, rfl, hg, hc⟩ := (HPW.out _ bel).2.1 i hlt
      have i0 : (0 : Int) ≤ (i : Int) := by omega
      have i1 : (i : Int) < (x.length : Int) := by omega
      have hwi : IntKind.i64.wrap ((i : Int) + 1) = ((i + 1 : Nat) : Int) := by rw [IntWalk.i64_in _ (by omega)]; omega
      obtain ⟨z0, z1, z2⟩ := HXW.out i hlt
      have hdr := Num.drop_at (l := x) (i := i) hlt
      have hT := HT.out
      rw [hdr] at hT
      unfold Num.evW at hT
      generalize x.getD i 0 = z at *
      by_cases hpos : 0 < z
      · rw [if_pos hpos] at hT
        have hk : (z - 1).toNat < imgs.length := by omega
        obtain ⟨gi, oi, Bi, di, rfl, hgi, hci, hli, hri⟩ := (HPW.out _ bel).2.2 (z - 1).toNat hk
        have HEI := Lib.hid (HIE.out _ hk)
        rw [HLEN.out _ HEI.out] at hci
        have hw : IntKind.i64.wrap (z - 1) = z - 1 := IntWalk.i64_in _ (by omega)
        have hi0 : 0 ≤ z - 1 := by omega
        have hi0' : 1 ≤ z := by omega
        have hi1 : z - 1 < (imgs.length : Int) := by omega
        have HEM := Lib.hid (Num.El.mul (HV.out.ok 0) HQ.out HEI.out)
        have HT2 := Lib.hid hT
        have HMU := Lib.hid (sMul_any (c0 := c0) (c1 := c1) (c2 := c2) HV.out wr.drew q (imgs.getD (z - 1).toNat []) D Bi d di (HPW.out _ bel.drew).1 (own.out.reads.below' (Below.refl _ _).drew) (hri.below' (Below.refl _ _).drew) HQ.out HEI.out)
        have KX : ∀ {W'}, Below wr.heap.size wr W' → (W'.cell? ⟨w.heap.size, 0, none⟩ = some (.slice A0 O.length c0) ∧ W'.cell? ⟨w.heap.size, 1, none⟩ = some (.slice A1 O.length c1) ∧ W'.cell? ⟨w.heap.size, 2, none⟩ = some (.slice A2 O.length c2)) ∧ W'.cell? ⟨g, o + i, none⟩ = some (.int .i64 z) ∧ W'.cell? ⟨gi, oi + (z - 1).toNat, none⟩ = some (.slice Bi O.length di) := fun {W'} hb => by
          obtain ⟨-, a0, a1, a2⟩ := (HBX.out.below (bstep bel bel.size hb)).c3
          exact ⟨⟨a0, a1, a2⟩, (hb.cell hg).trans hc, (hb.cell hgi).trans hci⟩
        unfold VecO at HMU
        generalize Num.mulL (Num.tlL O W J 0) q (imgs.getD (z - 1).toNat []) = p2 at *
        generalize hkk : (z - 1).toNat = kk at *
        have hkk2 : z.toNat - 1 = kk := by omega
        clear hdr hT HT hri hli own
        go_wp2_with (fail)
        go_region_held3 (fun wx => (wx.cell? ⟨w.heap.size, 0, none⟩ = some (.slice A0 O.length c0) ∧ wx.cell? ⟨w.heap.size, 1, none⟩ = some (.slice A1 O.length c1) ∧ wx.cell? ⟨w.heap.size, 2, none⟩ = some (.slice A2 O.length c2)) ∧ wx.cell? ⟨g, o + i, none⟩ = some (.int .i64 z) ∧ wx.cell? ⟨gi, oi + kk, none⟩ = some (.slice Bi O.length di)) (first | assumption | go_keep) (first
          | (go_at_call 64; (with_reducible refine HMU.out.mono ?_); rintro e w5 ⟨D5, d5, rfl, ow5, hb5⟩; have L5 : Below wr.heap.size wr w5 := (Below.refl _ _).drew.trans hb5; have SM5 := KX L5))
        all_goals
          have LB := bstep bel bel.size L5
          have OW5 := Lib.hid (ow5.base_ (show w.heap.size ≤ wr.drew.heap.size by simp only [World.size_drew]; have := b0.size; omega))
          clear SM5 y0 y1 y2 KX HMU ow5
          go_wp2_with (fail)
          exact ⟨⟨i + 1, p2, D5, d5, rfl, rfl, by omega, HEM, HT2, OW5, LB⟩, by simp [intOf]; omega⟩
      · have hnp : ¬ (0 : Int) < z := hpos
        rw [if_neg hpos] at hT
        have hk : (-z - 1).toNat < imgs.length := by omega
        obtain ⟨gi, oi, Bi, di, rfl, hgi, hci, hli, hri⟩ := (HPW.out _ bel).2.2 (-z - 1).toNat hk
        have HEI := Lib.hid (HIE.out _ hk)
        have HEV := Lib.hid (Num.inv_El (HV.out.ok 0) HEI.out)
        rw [HLEN.out _ HEI.out] at hci
        have hw0 : IntKind.i64.wrap (-z) = -z := IntWalk.i64_in _ (by omega)
        have hw : IntKind.i64.wrap (-z - 1) = -z - 1 := IntWalk.i64_in _ (by omega)
        have hi0 : 0 ≤ -z - 1 := by omega
        have hi0' : 1 ≤ -z := by omega
        have hi1 : -z - 1 < (imgs.length : Int) := by omega
        have HEM := Lib.hid (Num.El.mul (HV.out.ok 0) HQ.out HEV.out)
        have HT2 := Lib.hid hT
        have HIN := Lib.hid (sInv_any (c0 := c0) (c1 := c1) (c2 := c2) HV.out wr.drew (imgs.getD (-z - 1).toNat []) Bi di (HPW.out _ bel.drew).1 (hri.below' (Below.refl _ _).drew) HEI.out)
        have HMU : Hid (∀ (W' : World) (E : Option Addr) (e : Nat), Below wr.heap.size wr W' → RdI W' E (Num.invL (Num.tlL O W J 0) (imgs.getD (-z - 1).toNat [])) → _) := Lib.hid fun W' E e hb hE => sMul_any (c0 := c0) (c1 := c1) (c2 := c2) HV.out W' q _ D E d e (HPW.out _ (bstep bel bel.size hb)).1 (own.out.reads.below' hb) hE HQ.out HEV.out
        have KX : ∀ {W'}, Below wr.heap.size wr W' → (W'.cell? ⟨w.heap.size, 0, none⟩ = some (.slice A0 O.length c0) ∧ W'.cell? ⟨w.heap.size, 1, none⟩ = some (.slice A1 O.length c1) ∧ W'.cell? ⟨w.heap.size, 2, none⟩ = some (.slice A2 O.length c2)) ∧ W'.cell? ⟨g, o + i, none⟩ = some (.int .i64 z) ∧ W'.cell? ⟨gi, oi + (-z - 1).toNat, none⟩ = some (.slice Bi O.length di) := fun {W'} hb => by
          obtain ⟨-, a0, a1, a2⟩ := (HBX.out.below (bstep bel bel.size hb)).c3
          exact ⟨⟨a0, a1, a2⟩, (hb.cell hg).trans hc, (hb.cell hgi).trans hci⟩
        unfold VecO at HMU HIN
        generalize Num.mulL (Num.tlL O W J 0) q (Num.invL (Num.tlL O W J 0) (imgs.getD (-z - 1).toNat [])) = p2 at *
        generalize Num.invL (Num.tlL O W J 0) (imgs.getD (-z - 1).toNat []) = iv at *
        generalize hkk : (-z - 1).toNat = kk at *
        have hkk2 : (-z).toNat - 1 = kk := by omega
        clear hdr hT HT hri hli own
        go_wp2_with (fail)
        go_region_held3 (fun wx => (wx.cell? ⟨w.heap.size, 0, none⟩ = some (.slice A0 O.length c0) ∧ wx.cell? ⟨w.heap.size, 1, none⟩ = some (.slice A1 O.length c1) ∧ wx.cell? ⟨w.heap.size, 2, none⟩ = some (.slice A2 O.length c2)) ∧ wx.cell? ⟨g, o + i, none⟩ = some (.int .i64 z) ∧ wx.cell? ⟨gi, oi + kk, none⟩ = some (.slice Bi O.length di)) (first | assumption | go_keep) (first
          | (go_at_call 64; (with_reducible refine HM6.out.mono ?_); rintro e w6 ⟨D6, d6, rfl, ow6, hb6⟩; have L6 := bstep L5 L5.size hb6; have SM6 := KX L6)
          | (go_at_call 68; (with_reducible refine HIN.out.mono ?_); rintro e w5 ⟨D5, d5, rfl, ow5, hb5⟩; have L5 : Below wr.heap.size wr w5 := (Below.refl _ _).drew.trans hb5; have SM5 := KX L5; have HM6 := Lib.hid (HMU.out w5 D5 d5 L5 ow5.reads)))
        all_goals
          have LB := bstep bel bel.size L6
          have OW6 := Lib.hid (ow6.base_ (show w.heap.size ≤ w5.heap.size by have := b0.size; have := L5.size; omega))
          clear SM5 SM6 y0 y1 y2 KX HMU HIN ow6 ow5
          go_wp2_with (fail)
          exact ⟨⟨i + 1, p2, D6, d6, rfl, rfl, by omega, HEM, HT2, OW6, LB⟩, by simp [intOf]; omega⟩
    · have hge : ¬ ((i : Int) < (x.length : Int)) := by omega
      obtain rfl : i = x.length := by omega
      have HF : Hid (q = RES) := Lib.hid (by
        have := HT.out
        rw [List.drop_of_length_le (Nat.le_refl _)] at this
        exact this)
      clear HT
      go_wp2_with (fail)
      go_ret
      exact ⟨_, _, rfl, by rw [← HF.out]; exact own.out, bstep b0 b0.size bel⟩
theorem isWB_out {k : Int} {x : List Int} (h : Num.isWB k x = true) : x.length ≤ 64 ∧ ∀ j, j < x.length → x.getD j 0 ≠ 0 ∧ -k ≤ x.getD j 0 ∧ x.getD j 0 ≤ k := by
  obtain ⟨h3, h4⟩ := Num.isWB_iff.mp h
  refine ⟨h3, fun j hj => ?_⟩
  rw [List.getD_eq_getElem?_getD, List.getElem?_eq_getElem hj]
  exact h4 _ (List.getElem_mem hj)
set_option maxRecDepth 100000 in
set_option maxHeartbeats 4000000 in
theorem sEvaluateWord_ok (v0 : Value) (p : Pres) (v1 : Value) (x : List Int) (v2 : Value) (imgs : List (List Int)) (w : World) (h0 : spPres.rd w v0 p) (h1 : spI.rd w v1 x) (h2 : spII.rd w v2 imgs) (s0 : spPres.sz p ≤ 1048576) (s1 : spI.sz x ≤ 1048576) (s2 : spII.sz imgs ≤ 1048576) :
    Calls Try.prog 43 #[v0, v1, v2] w (MadeC spI (rEvaluateWord p x imgs) (cEvaluateWord p x imgs) w) := by
  have h0' := h0
  obtain ⟨A0, c0, A1, c1, A2, c2, rfl, ⟨hO, hW, hJ⟩, m0, -, -⟩ := pres_open h0
  obtain ⟨B, d, rfl, hl, hB⟩ := h1
  obtain ⟨D, dd, rfl, -⟩ := id h2
  obtain ⟨-, hlD, hD⟩ := RdW.of h2
  have hlD' := hlD
  unfold maxLen at hlD'
  have b0 : Below w.heap.size w (w.alloc (.cells #[.slice A0 p.O.length c0, .slice A1 p.W.length c1, .slice A2 p.J.length c2] 29)) := by go_grown
  have BX := Blk.new w [.slice A0 p.O.length c0, .slice A1 p.W.length c1, .slice A2 p.J.length c2] 29
  generalize hW0 : w.alloc (.cells #[.slice A0 p.O.length c0, .slice A1 p.W.length c1, .slice A2 p.J.length c2] 29) = W0 at *
  have HBX := Lib.hid BX
  obtain ⟨bl, y0, y1, y2⟩ := BX.c3
  have HI := Lib.hid (sGroup_any _ p W0 (spPres.rd_below h0' b0))
  have hkw : IntKind.i64.wrap (imgs.length : Int) = (imgs.length : Int) := IntWalk.i64_in _ (by omega)
  cases hk : p.con with
  | true =>
    rw [hk] at HI
    obtain ⟨V, C⟩ := Pres.con_Con hk
    by_cases h6 : imgs.length ≤ 6
    · have h6' : ¬ (6 : Int) < (imgs.length : Int) := by omega
      have HES : Hid (∀ W', Below w.heap.size w W' → Calls Try.prog 86 #[.agg #[.slice A0 p.O.length c0, .slice A1 p.W.length c1, .slice A2 p.J.length c2], .slice D imgs.length dd] W' (RetB (p.els imgs) W')) := Lib.hid fun W' hb => sEls_any _ p D dd imgs W' (spPres.rd_below h0' hb) (hD.below' hb) (by omega) (Pres.gps_con hk)
      have HWD : Hid (∀ W', Below w.heap.size w W' → Calls Try.prog 87 #[.int .i64 (imgs.length : Int), .slice B x.length d] W' fun e w' => e = .returned (.bool (Num.isWB (imgs.length : Int) x)) ∧ W' = w') := Lib.hid fun W' hb => sWordB_any _ B d x W' (hB.below' hb) hl ⟨by omega, by omega⟩
      have HEV : Hid (p.evs x imgs = (p.els imgs && Num.isWB imgs.length x)) := Lib.hid (by unfold Pres.evs; rw [hk, decide_eq_true h6]; rfl)
      unfold RetB at HES
      cases he : p.els imgs with
      | true =>
        rw [he] at HES HEV
        cases hw : Num.isWB (imgs.length : Int) x with
        | true =>
          rw [hw] at HWD HEV
          obtain ⟨x64, hxw⟩ := isWB_out hw
          have hie : ∀ j, j < imgs.length → Num.El p.L (imgs.getD j []) := fun j hj => (Pres.el_out (Pres.els_at he hj)).2
          have HR : Hid (rEvaluateWord p x imgs = Num.evW p.L imgs (Num.zer p.O.length) x ∧ cEvaluateWord p x imgs = 0) := Lib.hid ⟨if_pos HEV.out, if_pos HEV.out⟩
          have HEE := Num.evW_El (V.ok 0) (imgs := imgs) x (by have := Num.zer_El (V.ok 0); rwa [Num.tlL_len, Nat.sub_zero] at this) (fun z hz => by
            obtain ⟨j, hj, rfl⟩ := List.mem_iff_getElem.mp hz
            have := hxw j hj
            rwa [List.getD_eq_getElem?_getD, List.getElem?_eq_getElem hj] at this) hie
          have HLN : Hid ((Num.evW p.L imgs (Num.zer p.O.length) x).length ≤ 1000000000) := Lib.hid (by
            have h1 := HEE.len
            rw [Num.tlL_len] at h1
            have h3 := V.n6
            show (Num.evW (Num.tlL p.O p.W p.J 0) imgs (Num.zer p.O.length) x).length ≤ _
            omega)
          have HM : Hid (∀ W', Below w.heap.size w W' → Calls Try.prog 88 #[.agg #[.slice A0 p.O.length c0, .slice A1 p.W.length c1, .slice A2 p.J.length c2], .slice B x.length d, .slice D imgs.length dd] W' (VecO p.O (Num.evW p.L imgs (Num.zer p.O.length) x) W')) := Lib.hid fun W' hb => by
            rw [V.lw, V.lj]
            exact sEval_any V C W' x B d imgs D dd ⟨hO.below' hb, hW.below' hb, hJ.below' hb⟩ (hB.below' hb) x64 hxw (hD.below' hb) h6 hie
          unfold VecO at HM
          generalize Num.evW p.L imgs (Num.zer p.O.length) x = z at *
          clear h0 h0' h2 hO hW hJ hB hD BX m0 V C hxw hie HEE hk he hw
          go_enter Try.func43, Try.ntmps43
          go_wp2_with (fail)
          clear hW0
          refine HI.out.mono ?_; rintro e w1 ⟨rfl, hb1⟩
          have L1 := bstep b0 b0.size hb1
          obtain ⟨bl1, z0, z1, z2⟩ := (HBX.out.below hb1).c3
          have HE1 := Lib.hid (HES.out w1 L1)
          clear HI HES y0 y1 y2
          go_wp2_with (fail)
          refine HE1.out.mono ?_; rintro e w2 ⟨rfl, hb2⟩
          have L2 := bstep L1 L1.size hb2
          obtain ⟨bl2, u0, u1, u2⟩ := ((HBX.out.below hb1).below hb2).c3
          have HW1 := Lib.hid (HWD.out w2 L2)
          have HM1 := Lib.hid (HM.out w2 L2)
          clear HE1 HWD z0 z1 z2 HM
          go_wp2_with (fail)
          refine HW1.out.mono ?_; rintro e w3 ⟨rfl, rfl⟩
          go_wp2_with (fail)
          refine HM1.out.mono ?_; rintro e w4 ⟨A', c', rfl, ow, hb4⟩
          go_wp2_with (fail)
          go_ret2
          rw [HR.out.1, HR.out.2]
          exact MadeC.list (ow.base_ L2.size) HLN.out (bstep L2 L2.size hb4)
        | false =>
          rw [hw] at HWD HEV
          have HR : Hid (rEvaluateWord p x imgs = [] ∧ cEvaluateWord p x imgs = 1) := Lib.hid ⟨if_neg (by rw [HEV.out]; simp), if_neg (by rw [HEV.out]; simp)⟩
          clear h0 h0' h2 hO hW hJ hB hD BX m0 V C hk he hw
          go_enter Try.func43, Try.ntmps43
          go_wp2_with (fail)
          clear hW0
          refine HI.out.mono ?_; rintro e w1 ⟨rfl, hb1⟩
          have L1 := bstep b0 b0.size hb1
          obtain ⟨bl1, z0, z1, z2⟩ := (HBX.out.below hb1).c3
          have HE1 := Lib.hid (HES.out w1 L1)
          clear HI HES y0 y1 y2
          go_wp2_with (fail)
          refine HE1.out.mono ?_; rintro e w2 ⟨rfl, hb2⟩
          have L2 := bstep L1 L1.size hb2
          have HW1 := Lib.hid (HWD.out w2 L2)
          go_wp2_with (fail)
          refine HW1.out.mono ?_; rintro e w3 ⟨rfl, rfl⟩
          go_wp2_with (fail)
          go_ret2
          rw [HR.out.1, HR.out.2]
          exact MadeC.nilW L2
      | false =>
        rw [he] at HES HEV
        have HR : Hid (rEvaluateWord p x imgs = [] ∧ cEvaluateWord p x imgs = 1) := Lib.hid ⟨if_neg (by rw [HEV.out]; simp), if_neg (by rw [HEV.out]; simp)⟩
        clear h0 h0' h2 hO hW hJ hB hD BX m0 V C hk he
        go_enter Try.func43, Try.ntmps43
        go_wp2_with (fail)
        clear hW0
        refine HI.out.mono ?_; rintro e w1 ⟨rfl, hb1⟩
        have L1 := bstep b0 b0.size hb1
        obtain ⟨bl1, z0, z1, z2⟩ := (HBX.out.below hb1).c3
        have HE1 := Lib.hid (HES.out w1 L1)
        clear HI HES y0 y1 y2
        go_wp2_with (fail)
        refine HE1.out.mono ?_; rintro e w2 ⟨rfl, hb2⟩
        have L2 := bstep L1 L1.size hb2
        go_wp2_with (fail)
        go_ret2
        rw [HR.out.1, HR.out.2]
        exact MadeC.nilW L2
    · have h6' : (6 : Int) < (imgs.length : Int) := by omega
      have HEV : Hid (p.evs x imgs = false) := Lib.hid (by unfold Pres.evs; rw [decide_eq_false h6]; simp)
      have HR : Hid (rEvaluateWord p x imgs = [] ∧ cEvaluateWord p x imgs = 1) := Lib.hid ⟨if_neg (by rw [HEV.out]; simp), if_neg (by rw [HEV.out]; simp)⟩
      clear h0 h0' h2 hO hW hJ hB hD BX m0 V C hk
      go_enter Try.func43, Try.ntmps43
      go_wp2_with (fail)
      clear hW0
      refine HI.out.mono ?_; rintro e w1 ⟨rfl, hb1⟩
      have L1 := bstep b0 b0.size hb1
      obtain ⟨bl1, z0, z1, z2⟩ := (HBX.out.below hb1).c3
      go_wp2_with (fail)
      go_ret2
      rw [HR.out.1, HR.out.2]
      exact MadeC.nilW L1
  | false =>
    rw [hk] at HI
    have HEV : Hid (p.evs x imgs = false) := Lib.hid (by unfold Pres.evs; rw [hk]; rfl)
    have HR : Hid (rEvaluateWord p x imgs = [] ∧ cEvaluateWord p x imgs = 1) := Lib.hid ⟨if_neg (by rw [HEV.out]; simp), if_neg (by rw [HEV.out]; simp)⟩
    clear h0 h0' h2 hO hW hJ hB hD BX m0 hk
    go_enter Try.func43, Try.ntmps43
    go_wp2_with (fail)
    clear hW0
    refine HI.out.mono ?_; rintro e w1 ⟨rfl, hb1⟩
    have L1 := bstep b0 b0.size hb1
    obtain ⟨bl1, z0, z1, z2⟩ := (HBX.out.below hb1).c3
    go_wp2_with (fail)
    go_ret2
    rw [HR.out.1, HR.out.2]
    exact MadeC.nilW L1
end Go.Proofs.Yteappjgdcbploaa
namespace Go.Proofs.Yteappjgdcbploaa
open Go.RowKit
set_option linter.unusedVariables false
set_option linter.unusedSimpArgs false

set_option maxRecDepth 100000 in
set_option maxHeartbeats 4000000 in
theorem fnExactEvaluateWord_run (v0 : Value) (x0 : Pres) (v1 : Value) (x1 : List Int) (v2 : Value) (x2 : List (List Int)) (w : World) (h0 : spPres.rd w v0 x0) (h1 : spI.rd w v1 x1) (h2 : spII.rd w v2 x2) :
    Calls Try.prog 12 #[v0, v1, v2] w fun e w' => e = .returned (.bool true) ∧ Below w.heap.size w w' := by
  have h1b := h1
  obtain ⟨A1, c1, rfl, m1, -⟩ := h1b
  have m1' := m1
  unfold maxLen at m1'
  have h2b := h2
  obtain ⟨A2, c2, rfl, m2, -⟩ := h2b
  have m2' := m2
  unfold maxLen at m2'
  obtain ⟨Aa0_0, na0_0, ca0_0, Aa0_1, na0_1, ca0_1, Aa0_2, na0_2, ca0_2, rfl, -, -, -⟩ := spPres_form h0
  have L : Below w.heap.size w (w.alloc (.cells [.slice Aa0_0 na0_0 ca0_0, .slice Aa0_1 na0_1 ca0_1, .slice Aa0_2 na0_2 ca0_2].toArray 26)) := by go_grown
  have Ba0 : Blk (w.alloc (.cells [.slice Aa0_0 na0_0 ca0_0, .slice Aa0_1 na0_1 ca0_1, .slice Aa0_2 na0_2 ca0_2].toArray 26)) (w.heap.size) [.slice Aa0_0 na0_0 ca0_0, .slice Aa0_1 na0_1 ca0_1, .slice Aa0_2 na0_2 ca0_2] 26 := by have := Blk.new w [.slice Aa0_0 na0_0 ca0_0, .slice Aa0_1 na0_1 ca0_1, .slice Aa0_2 na0_2 ca0_2] 26; simpa only [World.size_alloc] using this
  have RW0 := Lib.hid h0
  have RW1 := Lib.hid h1
  have RW2 := Lib.hid h2
  clear h0 h1 h2
  by_cases s1 : (x1.length : Int) ≤ 1048576
  · have s1' : spI.sz x1 ≤ 1048576 := by show x1.length ≤ 1048576; omega
    by_cases s0 : (spPres.sz x0 : Int) ≤ 1048576
    · have s0' : spPres.sz x0 ≤ 1048576 := by omega
      by_cases s2 : (spII.sz x2 : Int) ≤ 1048576 - (spPres.sz x0 : Int)
      · have s2' : spII.sz x2 ≤ 1048576 := by omega
        obtain ⟨ba0l, ba00, ba01, ba02⟩ := Ba0.c3
        have HC := Lib.hid (szPres_ok (.agg #[.slice Aa0_0 na0_0 ca0_0, .slice Aa0_1 na0_1 ca0_1, .slice Aa0_2 na0_2 ca0_2]) x0 (1048576) (w.alloc (.cells [.slice Aa0_0 na0_0 ca0_0, .slice Aa0_1 na0_1 ca0_1, .slice Aa0_2 na0_2 ca0_2].toArray 26)) (spPres.rd_below RW0.out L) (by omega) (by omega))
        rw [szLeft_yes (n := spPres.sz x0) (left := 1048576) (by omega)] at HC
        have g0 : 0 ≤ 1048576 - (spPres.sz x0 : Int) := by omega
        have g0' : 1048576 - (spPres.sz x0 : Int) ≤ 1048576 := by omega
        go_enter Try.func12, Try.ntmps12
        go_wp2_with (fail)
        refine HC.out.mono ?_; rintro e w1 ⟨rfl, hb⟩
        clear ba0l ba00 ba01 ba02
        clear HC
        replace Ba0 := Ba0.below hb
        replace L := bstep L L.size hb
        clear hb
        obtain ⟨ba0l, ba00, ba01, ba02⟩ := Ba0.c3
        have HC := Lib.hid (szII_ok (.slice A2 x2.length c2) x2 (1048576 - (spPres.sz x0 : Int)) w1 (spII.rd_below RW2.out L) (by omega) (by omega))
        rw [szLeft_yes (n := spII.sz x2) (left := 1048576 - (spPres.sz x0 : Int)) (by omega)] at HC
        have g2 : 0 ≤ 1048576 - (spPres.sz x0 : Int) - (spII.sz x2 : Int) := by omega
        have g2' : 1048576 - (spPres.sz x0 : Int) - (spII.sz x2 : Int) ≤ 1048576 := by omega
        go_wp2_with (fail)
        refine HC.out.mono ?_; rintro e w2 ⟨rfl, hb⟩
        clear ba0l ba00 ba01 ba02
        clear HC
        replace Ba0 := Ba0.below hb
        replace L := bstep L L.size hb
        clear hb
        obtain ⟨ba0l, ba00, ba01, ba02⟩ := Ba0.c3
        go_wp2_with (fail)
        refine (toPres_ok (.agg #[.slice Aa0_0 na0_0 ca0_0, .slice Aa0_1 na0_1 ca0_1, .slice Aa0_2 na0_2 ca0_2]) x0 w2 (spPres.rd_below RW0.out L) s0').mono ?_; rintro e w3 ⟨up0, Sp0, rfl, owp0, hSp0, hb⟩
        clear ba0l ba00 ba01 ba02
        have Na0_p0 : ¬ Sp0 (w.heap.size) := fun g => by have := hSp0 _ g; have := Ba0.lt; omega
        have Hp0 : Hid (∀ k, Sp0 k → w.heap.size ≤ k) := Lib.hid fun k g => by have := hSp0 k g; have := L.size; omega
        replace Ba0 := Ba0.below hb
        replace L := bstep L L.size hb
        clear hb hSp0
        obtain ⟨Ap0_0, np0_0, cp0_0, Ap0_1, np0_1, cp0_1, Ap0_2, np0_2, cp0_2, rfl, -, -, -⟩ := spPres_form (spPres.own_rd owp0)
        have Op0 := Lib.hid owp0
        clear owp0
        obtain ⟨ba0l, ba00, ba01, ba02⟩ := Ba0.c3
        go_wp2_with (fail)
        refine (toI_ok (.slice A1 x1.length c1) x1 w3 (spI.rd_below RW1.out L) s1').mono ?_; rintro e w4 ⟨up1, Sp1, rfl, owp1, hSp1, hb⟩
        clear ba0l ba00 ba01 ba02
        have Dp0_p1 : Hid (∀ k, Sp0 k → ¬ Sp1 k) := Lib.hid fun k g1 g2 => by have := spPres.own_lt Op0.out g1; have := hSp1 k g2; omega
        have Na0_p1 : ¬ Sp1 (w.heap.size) := fun g => by have := hSp1 _ g; have := Ba0.lt; omega
        have Hp1 : Hid (∀ k, Sp1 k → w.heap.size ≤ k) := Lib.hid fun k g => by have := hSp1 k g; have := L.size; omega
        replace Op0 := Lib.hid (spPres.own_below Op0.out hb)
        replace Ba0 := Ba0.below hb
        replace L := bstep L L.size hb
        clear hb hSp1
        have Op1 := Lib.hid owp1
        clear owp1
        obtain ⟨ba0l, ba00, ba01, ba02⟩ := Ba0.c3
        go_wp2_with (fail)
        refine (toII_ok (.slice A2 x2.length c2) x2 w4 (spII.rd_below RW2.out L) s2').mono ?_; rintro e w5 ⟨up2, Sp2, rfl, owp2, hSp2, hb⟩
        clear ba0l ba00 ba01 ba02
        have Dp0_p2 : Hid (∀ k, Sp0 k → ¬ Sp2 k) := Lib.hid fun k g1 g2 => by have := spPres.own_lt Op0.out g1; have := hSp2 k g2; omega
        have Dp1_p2 : Hid (∀ k, Sp1 k → ¬ Sp2 k) := Lib.hid fun k g1 g2 => by have := spI.own_lt Op1.out g1; have := hSp2 k g2; omega
        have Na0_p2 : ¬ Sp2 (w.heap.size) := fun g => by have := hSp2 _ g; have := Ba0.lt; omega
        have Hp2 : Hid (∀ k, Sp2 k → w.heap.size ≤ k) := Lib.hid fun k g => by have := hSp2 k g; have := L.size; omega
        replace Op0 := Lib.hid (spPres.own_below Op0.out hb)
        replace Op1 := Lib.hid (spI.own_below Op1.out hb)
        replace Ba0 := Ba0.below hb
        replace L := bstep L L.size hb
        clear hb hSp2
        have Op2 := Lib.hid owp2
        clear owp2
        obtain ⟨ba0l, ba00, ba01, ba02⟩ := Ba0.c3
        go_wp2_with (fail)
        refine (sEvaluateWord_ok (.agg #[.slice Ap0_0 np0_0 cp0_0, .slice Ap0_1 np0_1 cp0_1, .slice Ap0_2 np0_2 cp0_2]) x0 up1 x1 up2 x2 w5 (spPres.own_rd Op0.out) (spI.own_rd Op1.out) (spII.own_rd Op2.out) s0' s1' s2').mono ?_; rintro e w6 ⟨uw0, Sw0, rfl, oww0, hSw0, hcnt, hb⟩
        clear ba0l ba00 ba01 ba02
        clear hcnt
        have Dp0_w0 : Hid (∀ k, Sp0 k → ¬ Sw0 k) := Lib.hid fun k g1 g2 => by have := spPres.own_lt Op0.out g1; have := hSw0 k g2; omega
        have Dp1_w0 : Hid (∀ k, Sp1 k → ¬ Sw0 k) := Lib.hid fun k g1 g2 => by have := spI.own_lt Op1.out g1; have := hSw0 k g2; omega
        have Dp2_w0 : Hid (∀ k, Sp2 k → ¬ Sw0 k) := Lib.hid fun k g1 g2 => by have := spII.own_lt Op2.out g1; have := hSw0 k g2; omega
        have Na0_w0 : ¬ Sw0 (w.heap.size) := fun g => by have := hSw0 _ g; have := Ba0.lt; omega
        have Hw0 : Hid (∀ k, Sw0 k → w.heap.size ≤ k) := Lib.hid fun k g => by have := hSw0 k g; have := L.size; omega
        replace Op0 := Lib.hid (spPres.own_below Op0.out hb)
        replace Op1 := Lib.hid (spI.own_below Op1.out hb)
        replace Op2 := Lib.hid (spII.own_below Op2.out hb)
        replace Ba0 := Ba0.below hb
        replace L := bstep L L.size hb
        clear hb hSw0
        have Ow0 := Lib.hid oww0
        clear oww0
        obtain ⟨ba0l, ba00, ba01, ba02⟩ := Ba0.c3
        go_wp2_with (fail)
        refine (toPres_ok (.agg #[.slice Aa0_0 na0_0 ca0_0, .slice Aa0_1 na0_1 ca0_1, .slice Aa0_2 na0_2 ca0_2]) x0 w6 (spPres.rd_below RW0.out L) s0').mono ?_; rintro e w7 ⟨uq0, Sq0, rfl, owq0, hSq0, hb⟩
        clear ba0l ba00 ba01 ba02
        have Dw0_q0 : Hid (∀ k, Sw0 k → ¬ Sq0 k) := Lib.hid fun k g1 g2 => by have := spI.own_lt Ow0.out g1; have := hSq0 k g2; omega
        have Na0_q0 : ¬ Sq0 (w.heap.size) := fun g => by have := hSq0 _ g; have := Ba0.lt; omega
        have Hq0 : Hid (∀ k, Sq0 k → w.heap.size ≤ k) := Lib.hid fun k g => by have := hSq0 k g; have := L.size; omega
        replace Ow0 := Lib.hid (spI.own_below Ow0.out hb)
        replace Ba0 := Ba0.below hb
        replace L := bstep L L.size hb
        clear hb hSq0
        obtain ⟨Aq0_0, nq0_0, cq0_0, Aq0_1, nq0_1, cq0_1, Aq0_2, nq0_2, cq0_2, rfl, -, -, -⟩ := spPres_form (spPres.own_rd owq0)
        have Oq0 := Lib.hid owq0
        clear owq0
        have Bq0 := Blk.new w7 [.slice Aq0_0 nq0_0 cq0_0, .slice Aq0_1 nq0_1 cq0_1, .slice Aq0_2 nq0_2 cq0_2] 29
        have Nq0_w0 : ¬ Sw0 w7.heap.size := fun g => by have := spI.own_lt Ow0.out g; omega
        have Nq0_q0 : ¬ Sq0 w7.heap.size := fun g => by have := spPres.own_lt Oq0.out g; omega
        have hbx : Below w7.heap.size w7 (w7.alloc (.cells [.slice Aq0_0 nq0_0 cq0_0, .slice Aq0_1 nq0_1 cq0_1, .slice Aq0_2 nq0_2 cq0_2].toArray 29)) := (Below.refl _ _).alloc (Nat.le_refl _) _
        replace Ow0 := Lib.hid (spI.own_below Ow0.out hbx)
        replace Oq0 := Lib.hid (spPres.own_below Oq0.out hbx)
        replace Ba0 := Ba0.below hbx
        replace L := bstep L L.size hbx
        clear hbx
        obtain ⟨ba0l, ba00, ba01, ba02⟩ := Ba0.c3
        obtain ⟨bq0l, bq00, bq01, bq02⟩ := Bq0.c3
        go_wp2_with (fail)
        refine (toI_ok (.slice A1 x1.length c1) x1 (w7.alloc (.cells [.slice Aq0_0 nq0_0 cq0_0, .slice Aq0_1 nq0_1 cq0_1, .slice Aq0_2 nq0_2 cq0_2].toArray 29)) (spI.rd_below RW1.out L) s1').mono ?_; rintro e w8 ⟨uq1, Sq1, rfl, owq1, hSq1, hb⟩
        clear ba0l ba00 ba01 ba02 bq0l bq00 bq01 bq02
        have Dw0_q1 : Hid (∀ k, Sw0 k → ¬ Sq1 k) := Lib.hid fun k g1 g2 => by have := spI.own_lt Ow0.out g1; have := hSq1 k g2; omega
        have Dq0_q1 : Hid (∀ k, Sq0 k → ¬ Sq1 k) := Lib.hid fun k g1 g2 => by have := spPres.own_lt Oq0.out g1; have := hSq1 k g2; omega
        have Na0_q1 : ¬ Sq1 (w.heap.size) := fun g => by have := hSq1 _ g; have := Ba0.lt; omega
        have Nq0_q1 : ¬ Sq1 w7.heap.size := fun g => by have := hSq1 _ g; have := Bq0.lt; omega
        have Hq1 : Hid (∀ k, Sq1 k → w.heap.size ≤ k) := Lib.hid fun k g => by have := hSq1 k g; have := L.size; omega
        replace Ow0 := Lib.hid (spI.own_below Ow0.out hb)
        replace Oq0 := Lib.hid (spPres.own_below Oq0.out hb)
        replace Ba0 := Ba0.below hb
        replace Bq0 := Bq0.below hb
        replace L := bstep L L.size hb
        clear hb hSq1
        have Oq1 := Lib.hid owq1
        clear owq1
        obtain ⟨ba0l, ba00, ba01, ba02⟩ := Ba0.c3
        obtain ⟨bq0l, bq00, bq01, bq02⟩ := Bq0.c3
        go_wp2_with (fail)
        refine (toII_ok (.slice A2 x2.length c2) x2 w8 (spII.rd_below RW2.out L) s2').mono ?_; rintro e w9 ⟨uq2, Sq2, rfl, owq2, hSq2, hb⟩
        clear ba0l ba00 ba01 ba02 bq0l bq00 bq01 bq02
        have Dw0_q2 : Hid (∀ k, Sw0 k → ¬ Sq2 k) := Lib.hid fun k g1 g2 => by have := spI.own_lt Ow0.out g1; have := hSq2 k g2; omega
        have Dq0_q2 : Hid (∀ k, Sq0 k → ¬ Sq2 k) := Lib.hid fun k g1 g2 => by have := spPres.own_lt Oq0.out g1; have := hSq2 k g2; omega
        have Dq1_q2 : Hid (∀ k, Sq1 k → ¬ Sq2 k) := Lib.hid fun k g1 g2 => by have := spI.own_lt Oq1.out g1; have := hSq2 k g2; omega
        have Na0_q2 : ¬ Sq2 (w.heap.size) := fun g => by have := hSq2 _ g; have := Ba0.lt; omega
        have Nq0_q2 : ¬ Sq2 w7.heap.size := fun g => by have := hSq2 _ g; have := Bq0.lt; omega
        have Hq2 : Hid (∀ k, Sq2 k → w.heap.size ≤ k) := Lib.hid fun k g => by have := hSq2 k g; have := L.size; omega
        replace Ow0 := Lib.hid (spI.own_below Ow0.out hb)
        replace Oq0 := Lib.hid (spPres.own_below Oq0.out hb)
        replace Oq1 := Lib.hid (spI.own_below Oq1.out hb)
        replace Ba0 := Ba0.below hb
        replace Bq0 := Bq0.below hb
        replace L := bstep L L.size hb
        clear hb hSq2
        have Oq2 := Lib.hid owq2
        clear owq2
        obtain ⟨ba0l, ba00, ba01, ba02⟩ := Ba0.c3
        obtain ⟨bq0l, bq00, bq01, bq02⟩ := Bq0.c3
        go_wp2_with (fail)
        refine (iEvaluateWord_ok (.agg #[.slice Aq0_0 nq0_0 cq0_0, .slice Aq0_1 nq0_1 cq0_1, .slice Aq0_2 nq0_2 cq0_2]) x0 uq1 x1 uq2 x2 w9 (presC_of Oq0.out) (spI.own_rd Oq1.out) (spII.own_rd Oq2.out) s0' s1' s2').mono ?_; rintro e w10 ⟨ug0, Sg0, rfl, owg0, hSg0, hcnt, hb⟩
        clear ba0l ba00 ba01 ba02 bq0l bq00 bq01 bq02
        have Dw0_g0 : Hid (∀ k, Sw0 k → ¬ Sg0 k) := Lib.hid fun k g1 g2 => by have := spI.own_lt Ow0.out g1; have := hSg0 k g2; omega
        have Dq0_g0 : Hid (∀ k, Sq0 k → ¬ Sg0 k) := Lib.hid fun k g1 g2 => by have := spPres.own_lt Oq0.out g1; have := hSg0 k g2; omega
        have Dq1_g0 : Hid (∀ k, Sq1 k → ¬ Sg0 k) := Lib.hid fun k g1 g2 => by have := spI.own_lt Oq1.out g1; have := hSg0 k g2; omega
        have Dq2_g0 : Hid (∀ k, Sq2 k → ¬ Sg0 k) := Lib.hid fun k g1 g2 => by have := spII.own_lt Oq2.out g1; have := hSg0 k g2; omega
        have Na0_g0 : ¬ Sg0 (w.heap.size) := fun g => by have := hSg0 _ g; have := Ba0.lt; omega
        have Nq0_g0 : ¬ Sg0 w7.heap.size := fun g => by have := hSg0 _ g; have := Bq0.lt; omega
        have Hg0 : Hid (∀ k, Sg0 k → w.heap.size ≤ k) := Lib.hid fun k g => by have := hSg0 k g; have := L.size; omega
        replace Ow0 := Lib.hid (spI.own_below Ow0.out hb)
        replace Oq0 := Lib.hid (spPres.own_below Oq0.out hb)
        replace Oq1 := Lib.hid (spI.own_below Oq1.out hb)
        replace Oq2 := Lib.hid (spII.own_below Oq2.out hb)
        replace Ba0 := Ba0.below hb
        replace Bq0 := Bq0.below hb
        replace L := bstep L L.size hb
        clear hb hSg0
        have Og0 := Lib.hid owg0
        clear owg0
        obtain ⟨ba0l, ba00, ba01, ba02⟩ := Ba0.c3
        obtain ⟨bq0l, bq00, bq01, bq02⟩ := Bq0.c3
        go_wp2_with (fail)
        refine (eqI_ok ug0 uw0 (rEvaluateWord x0 x1 x2) w10 (spI.own_rd Og0.out) (spI.own_rd Ow0.out)).mono ?_; rintro e w11 ⟨rfl, hb⟩
        clear ba0l ba00 ba01 ba02 bq0l bq00 bq01 bq02
        replace Ow0 := Lib.hid (spI.own_below Ow0.out hb)
        replace Oq0 := Lib.hid (spPres.own_below Oq0.out hb)
        replace Oq1 := Lib.hid (spI.own_below Oq1.out hb)
        replace Oq2 := Lib.hid (spII.own_below Oq2.out hb)
        replace Og0 := Lib.hid (spI.own_below Og0.out hb)
        replace Ba0 := Ba0.below hb
        replace Bq0 := Bq0.below hb
        replace L := bstep L L.size hb
        clear hb
        obtain ⟨ba0l, ba00, ba01, ba02⟩ := Ba0.c3
        obtain ⟨bq0l, bq00, bq01, bq02⟩ := Bq0.c3
        have HT := Lib.hid (toPres_ok (.agg #[.slice Aa0_0 na0_0 ca0_0, .slice Aa0_1 na0_1 ca0_1, .slice Aa0_2 na0_2 ca0_2]) x0 w11.drew (spPres.rd_drew (spPres.rd_below RW0.out L)) s0')
        go_wp2_with (fail)
        go_region_held3 (fun wx => wx.cell? ⟨w7.heap.size, 0, none⟩ = some (.slice Aq0_0 nq0_0 cq0_0) ∧ wx.cell? ⟨w7.heap.size, 1, none⟩ = some (.slice Aq0_1 nq0_1 cq0_1) ∧ wx.cell? ⟨w7.heap.size, 2, none⟩ = some (.slice Aq0_2 nq0_2 cq0_2) ∧ wx.cell? ⟨(w.heap.size), 0, none⟩ = some (.slice Aa0_0 na0_0 ca0_0) ∧ wx.cell? ⟨(w.heap.size), 1, none⟩ = some (.slice Aa0_1 na0_1 ca0_1) ∧ wx.cell? ⟨(w.heap.size), 2, none⟩ = some (.slice Aa0_2 na0_2 ca0_2)) (first | go_keep | assumption) (first | (go_at_call 18; refine HT.out.mono ?_; rintro e w12 ⟨ut0, St0, rfl, owt0, hSt0, hb⟩; have SM : w12.cell? ⟨w7.heap.size, 0, none⟩ = some (.slice Aq0_0 nq0_0 cq0_0) ∧ w12.cell? ⟨w7.heap.size, 1, none⟩ = some (.slice Aq0_1 nq0_1 cq0_1) ∧ w12.cell? ⟨w7.heap.size, 2, none⟩ = some (.slice Aq0_2 nq0_2 cq0_2) ∧ w12.cell? ⟨(w.heap.size), 0, none⟩ = some (.slice Aa0_0 na0_0 ca0_0) ∧ w12.cell? ⟨(w.heap.size), 1, none⟩ = some (.slice Aa0_1 na0_1 ca0_1) ∧ w12.cell? ⟨(w.heap.size), 2, none⟩ = some (.slice Aa0_2 na0_2 ca0_2) := ⟨(Blk.cell (Bq0.drew.below hb) 0 (by simp)), (Blk.cell (Bq0.drew.below hb) 1 (by simp)), (Blk.cell (Bq0.drew.below hb) 2 (by simp)), (Blk.cell (Ba0.drew.below hb) 0 (by simp)), (Blk.cell (Ba0.drew.below hb) 1 (by simp)), (Blk.cell (Ba0.drew.below hb) 2 (by simp))⟩) | (go_at_call 21; refine (eqPres_ok (.agg #[.slice Aq0_0 nq0_0 cq0_0, .slice Aq0_1 nq0_1 cq0_1, .slice Aq0_2 nq0_2 cq0_2]) _ x0 _ (spPres.rd_below (spPres.rd_drew (spPres.own_rd Oq0.out)) hb) (spPres.own_rd owt0)).mono ?_; rintro e w13 ⟨rfl, hb2⟩; have SM2 : w13.cell? ⟨w7.heap.size, 0, none⟩ = some (.slice Aq0_0 nq0_0 cq0_0) ∧ w13.cell? ⟨w7.heap.size, 1, none⟩ = some (.slice Aq0_1 nq0_1 cq0_1) ∧ w13.cell? ⟨w7.heap.size, 2, none⟩ = some (.slice Aq0_2 nq0_2 cq0_2) ∧ w13.cell? ⟨(w.heap.size), 0, none⟩ = some (.slice Aa0_0 na0_0 ca0_0) ∧ w13.cell? ⟨(w.heap.size), 1, none⟩ = some (.slice Aa0_1 na0_1 ca0_1) ∧ w13.cell? ⟨(w.heap.size), 2, none⟩ = some (.slice Aa0_2 na0_2 ca0_2) := ⟨(Blk.cell ((Bq0.drew.below hb).below hb2) 0 (by simp)), (Blk.cell ((Bq0.drew.below hb).below hb2) 1 (by simp)), (Blk.cell ((Bq0.drew.below hb).below hb2) 2 (by simp)), (Blk.cell ((Ba0.drew.below hb).below hb2) 0 (by simp)), (Blk.cell ((Ba0.drew.below hb).below hb2) 1 (by simp)), (Blk.cell ((Ba0.drew.below hb).below hb2) 2 (by simp))⟩))
        clear ba0l ba00 ba01 ba02 bq0l bq00 bq01 bq02
        have hd : Below w11.heap.size w11 w11.drew := (Below.refl _ _).drew
        replace Ow0 := Lib.hid (spI.own_below Ow0.out hd)
        replace Oq0 := Lib.hid (spPres.own_below Oq0.out hd)
        replace Oq1 := Lib.hid (spI.own_below Oq1.out hd)
        replace Oq2 := Lib.hid (spII.own_below Oq2.out hd)
        replace Og0 := Lib.hid (spI.own_below Og0.out hd)
        replace Ba0 := Ba0.below hd
        replace Bq0 := Bq0.below hd
        replace L := bstep L L.size hd
        replace Ow0 := Lib.hid (spI.own_below Ow0.out hb)
        replace Oq0 := Lib.hid (spPres.own_below Oq0.out hb)
        replace Oq1 := Lib.hid (spI.own_below Oq1.out hb)
        replace Oq2 := Lib.hid (spII.own_below Oq2.out hb)
        replace Og0 := Lib.hid (spI.own_below Og0.out hb)
        replace Ba0 := Ba0.below hb
        replace Bq0 := Bq0.below hb
        replace L := bstep L L.size hb
        replace Ow0 := Lib.hid (spI.own_below Ow0.out hb2)
        replace Oq0 := Lib.hid (spPres.own_below Oq0.out hb2)
        replace Oq1 := Lib.hid (spI.own_below Oq1.out hb2)
        replace Oq2 := Lib.hid (spII.own_below Oq2.out hb2)
        replace Og0 := Lib.hid (spI.own_below Og0.out hb2)
        replace Ba0 := Ba0.below hb2
        replace Bq0 := Bq0.below hb2
        replace L := bstep L L.size hb2
        clear hd hb hb2 HT SM SM2 owt0 hSt0
        obtain ⟨ba0l, ba00, ba01, ba02⟩ := Ba0.c3
        obtain ⟨bq0l, bq00, bq01, bq02⟩ := Bq0.c3
        go_wp2_with (fail)
        refine (toI_ok (.slice A1 x1.length c1) x1 w13 (spI.rd_below RW1.out L) s1').mono ?_; rintro e w14 ⟨ut1, St1, rfl, owt1, hSt1, hb⟩
        clear ba0l ba00 ba01 ba02 bq0l bq00 bq01 bq02
        have Dw0_t1 : Hid (∀ k, Sw0 k → ¬ St1 k) := Lib.hid fun k g1 g2 => by have := spI.own_lt Ow0.out g1; have := hSt1 k g2; omega
        have Dq0_t1 : Hid (∀ k, Sq0 k → ¬ St1 k) := Lib.hid fun k g1 g2 => by have := spPres.own_lt Oq0.out g1; have := hSt1 k g2; omega
        have Dq1_t1 : Hid (∀ k, Sq1 k → ¬ St1 k) := Lib.hid fun k g1 g2 => by have := spI.own_lt Oq1.out g1; have := hSt1 k g2; omega
        have Dq2_t1 : Hid (∀ k, Sq2 k → ¬ St1 k) := Lib.hid fun k g1 g2 => by have := spII.own_lt Oq2.out g1; have := hSt1 k g2; omega
        have Dg0_t1 : Hid (∀ k, Sg0 k → ¬ St1 k) := Lib.hid fun k g1 g2 => by have := spI.own_lt Og0.out g1; have := hSt1 k g2; omega
        have Na0_t1 : ¬ St1 (w.heap.size) := fun g => by have := hSt1 _ g; have := Ba0.lt; omega
        have Nq0_t1 : ¬ St1 w7.heap.size := fun g => by have := hSt1 _ g; have := Bq0.lt; omega
        have Ht1 : Hid (∀ k, St1 k → w.heap.size ≤ k) := Lib.hid fun k g => by have := hSt1 k g; have := L.size; omega
        replace Ow0 := Lib.hid (spI.own_below Ow0.out hb)
        replace Oq0 := Lib.hid (spPres.own_below Oq0.out hb)
        replace Oq1 := Lib.hid (spI.own_below Oq1.out hb)
        replace Oq2 := Lib.hid (spII.own_below Oq2.out hb)
        replace Og0 := Lib.hid (spI.own_below Og0.out hb)
        replace Ba0 := Ba0.below hb
        replace Bq0 := Bq0.below hb
        replace L := bstep L L.size hb
        clear hb hSt1
        have Ot1 := Lib.hid owt1
        clear owt1
        obtain ⟨ba0l, ba00, ba01, ba02⟩ := Ba0.c3
        obtain ⟨bq0l, bq00, bq01, bq02⟩ := Bq0.c3
        go_wp2_with (fail)
        refine (eqI_ok uq1 ut1 x1 w14 (spI.own_rd Oq1.out) (spI.own_rd Ot1.out)).mono ?_; rintro e w15 ⟨rfl, hb⟩
        clear ba0l ba00 ba01 ba02 bq0l bq00 bq01 bq02
        replace Ow0 := Lib.hid (spI.own_below Ow0.out hb)
        replace Oq0 := Lib.hid (spPres.own_below Oq0.out hb)
        replace Oq1 := Lib.hid (spI.own_below Oq1.out hb)
        replace Oq2 := Lib.hid (spII.own_below Oq2.out hb)
        replace Og0 := Lib.hid (spI.own_below Og0.out hb)
        replace Ot1 := Lib.hid (spI.own_below Ot1.out hb)
        replace Ba0 := Ba0.below hb
        replace Bq0 := Bq0.below hb
        replace L := bstep L L.size hb
        clear hb
        obtain ⟨ba0l, ba00, ba01, ba02⟩ := Ba0.c3
        obtain ⟨bq0l, bq00, bq01, bq02⟩ := Bq0.c3
        go_wp2_with (fail)
        refine (toII_ok (.slice A2 x2.length c2) x2 w15 (spII.rd_below RW2.out L) s2').mono ?_; rintro e w16 ⟨ut2, St2, rfl, owt2, hSt2, hb⟩
        clear ba0l ba00 ba01 ba02 bq0l bq00 bq01 bq02
        have Dw0_t2 : Hid (∀ k, Sw0 k → ¬ St2 k) := Lib.hid fun k g1 g2 => by have := spI.own_lt Ow0.out g1; have := hSt2 k g2; omega
        have Dq0_t2 : Hid (∀ k, Sq0 k → ¬ St2 k) := Lib.hid fun k g1 g2 => by have := spPres.own_lt Oq0.out g1; have := hSt2 k g2; omega
        have Dq1_t2 : Hid (∀ k, Sq1 k → ¬ St2 k) := Lib.hid fun k g1 g2 => by have := spI.own_lt Oq1.out g1; have := hSt2 k g2; omega
        have Dq2_t2 : Hid (∀ k, Sq2 k → ¬ St2 k) := Lib.hid fun k g1 g2 => by have := spII.own_lt Oq2.out g1; have := hSt2 k g2; omega
        have Dg0_t2 : Hid (∀ k, Sg0 k → ¬ St2 k) := Lib.hid fun k g1 g2 => by have := spI.own_lt Og0.out g1; have := hSt2 k g2; omega
        have Na0_t2 : ¬ St2 (w.heap.size) := fun g => by have := hSt2 _ g; have := Ba0.lt; omega
        have Nq0_t2 : ¬ St2 w7.heap.size := fun g => by have := hSt2 _ g; have := Bq0.lt; omega
        have Ht2 : Hid (∀ k, St2 k → w.heap.size ≤ k) := Lib.hid fun k g => by have := hSt2 k g; have := L.size; omega
        replace Ow0 := Lib.hid (spI.own_below Ow0.out hb)
        replace Oq0 := Lib.hid (spPres.own_below Oq0.out hb)
        replace Oq1 := Lib.hid (spI.own_below Oq1.out hb)
        replace Oq2 := Lib.hid (spII.own_below Oq2.out hb)
        replace Og0 := Lib.hid (spI.own_below Og0.out hb)
        replace Ba0 := Ba0.below hb
        replace Bq0 := Bq0.below hb
        replace L := bstep L L.size hb
        clear hb hSt2
        have Ot2 := Lib.hid owt2
        clear owt2
        obtain ⟨ba0l, ba00, ba01, ba02⟩ := Ba0.c3
        obtain ⟨bq0l, bq00, bq01, bq02⟩ := Bq0.c3
        go_wp2_with (fail)
        refine (eqII_ok uq2 ut2 x2 w16 (spII.own_rd Oq2.out) (spII.own_rd Ot2.out)).mono ?_; rintro e w17 ⟨rfl, hb⟩
        clear ba0l ba00 ba01 ba02 bq0l bq00 bq01 bq02
        replace Ow0 := Lib.hid (spI.own_below Ow0.out hb)
        replace Oq0 := Lib.hid (spPres.own_below Oq0.out hb)
        replace Oq1 := Lib.hid (spI.own_below Oq1.out hb)
        replace Oq2 := Lib.hid (spII.own_below Oq2.out hb)
        replace Og0 := Lib.hid (spI.own_below Og0.out hb)
        replace Ot2 := Lib.hid (spII.own_below Ot2.out hb)
        replace Ba0 := Ba0.below hb
        replace Bq0 := Bq0.below hb
        replace L := bstep L L.size hb
        clear hb
        have e0 := spPres_cnt x0
        have e1 := spI_cnt x1
        have e2 := spII_cnt x2
        obtain ⟨ba0l, ba00, ba01, ba02⟩ := Ba0.c3
        obtain ⟨bq0l, bq00, bq01, bq02⟩ := Bq0.c3
        go_wp2_with (fail)
        refine (markPres_ok Sq0 (.agg #[.slice Aq0_0 nq0_0 cq0_0, .slice Aq0_1 nq0_1 cq0_1, .slice Aq0_2 nq0_2 cq0_2]) x0 (1) w17 Oq0.out (by omega) (by omega)).mono ?_; rintro e w18 ⟨rfl, ow, ch⟩
        clear ba0l ba00 ba01 ba02 bq0l bq00 bq01 bq02
        replace Ow0 := Lib.hid (spI.own_chg Ow0.out ch Dw0_q0.out)
        replace Oq1 := Lib.hid (spI.own_chg Oq1.out ch (fun k g1 g2 => Dq0_q1.out k g2 g1))
        replace Oq2 := Lib.hid (spII.own_chg Oq2.out ch (fun k g1 g2 => Dq0_q2.out k g2 g1))
        replace Og0 := Lib.hid (spI.own_chg Og0.out ch (fun k g1 g2 => Dq0_g0.out k g2 g1))
        replace Ba0 := Ba0.chg ch Na0_q0
        replace Bq0 := Bq0.chg ch Nq0_q0
        replace L := bstepS L L.size Hq0.out ch
        replace Oq0 := Lib.hid ow
        clear ow ch
        have kp0 : 0 ≤ 1 + (spPres.cnt x0 : Int) := by omega
        obtain ⟨ba0l, ba00, ba01, ba02⟩ := Ba0.c3
        obtain ⟨bq0l, bq00, bq01, bq02⟩ := Bq0.c3
        go_wp2_with (fail)
        refine (markI_ok Sq1 uq1 x1 (1 + (spPres.cnt x0 : Int)) w18 Oq1.out (by omega) (by omega)).mono ?_; rintro e w19 ⟨rfl, ow, ch⟩
        clear ba0l ba00 ba01 ba02 bq0l bq00 bq01 bq02
        replace Ow0 := Lib.hid (spI.own_chg Ow0.out ch Dw0_q1.out)
        replace Oq0 := Lib.hid (spPres.own_chg Oq0.out ch Dq0_q1.out)
        replace Oq2 := Lib.hid (spII.own_chg Oq2.out ch (fun k g1 g2 => Dq1_q2.out k g2 g1))
        replace Og0 := Lib.hid (spI.own_chg Og0.out ch (fun k g1 g2 => Dq1_g0.out k g2 g1))
        replace Ba0 := Ba0.chg ch Na0_q1
        replace Bq0 := Bq0.chg ch Nq0_q1
        replace L := bstepS L L.size Hq1.out ch
        replace Oq1 := Lib.hid ow
        clear ow ch
        have kp1 : 0 ≤ 1 + (spPres.cnt x0 : Int) + (spI.cnt x1 : Int) := by omega
        obtain ⟨ba0l, ba00, ba01, ba02⟩ := Ba0.c3
        obtain ⟨bq0l, bq00, bq01, bq02⟩ := Bq0.c3
        go_wp2_with (fail)
        refine (markII_ok Sq2 uq2 x2 (1 + (spPres.cnt x0 : Int) + (spI.cnt x1 : Int)) w19 Oq2.out (by omega) (by omega)).mono ?_; rintro e w20 ⟨rfl, ow, ch⟩
        clear ba0l ba00 ba01 ba02 bq0l bq00 bq01 bq02
        replace Ow0 := Lib.hid (spI.own_chg Ow0.out ch Dw0_q2.out)
        replace Oq0 := Lib.hid (spPres.own_chg Oq0.out ch Dq0_q2.out)
        replace Oq1 := Lib.hid (spI.own_chg Oq1.out ch Dq1_q2.out)
        replace Og0 := Lib.hid (spI.own_chg Og0.out ch (fun k g1 g2 => Dq2_g0.out k g2 g1))
        replace Ba0 := Ba0.chg ch Na0_q2
        replace Bq0 := Bq0.chg ch Nq0_q2
        replace L := bstepS L L.size Hq2.out ch
        replace Oq2 := Lib.hid ow
        clear ow ch
        have kp2 : 0 ≤ 1 + (spPres.cnt x0 : Int) + (spI.cnt x1 : Int) + (spII.cnt x2 : Int) := by omega
        obtain ⟨ba0l, ba00, ba01, ba02⟩ := Ba0.c3
        obtain ⟨bq0l, bq00, bq01, bq02⟩ := Bq0.c3
        go_wp2_with (fail)
        refine (eqI_ok ug0 uw0 (rEvaluateWord x0 x1 x2) w20 (spI.own_rd Og0.out) (spI.own_rd Ow0.out)).mono ?_; rintro e w21 ⟨rfl, hb⟩
        clear ba0l ba00 ba01 ba02 bq0l bq00 bq01 bq02
        replace Ow0 := Lib.hid (spI.own_below Ow0.out hb)
        replace Oq0 := Lib.hid (spPres.own_below Oq0.out hb)
        replace Oq1 := Lib.hid (spI.own_below Oq1.out hb)
        replace Oq2 := Lib.hid (spII.own_below Oq2.out hb)
        replace Og0 := Lib.hid (spI.own_below Og0.out hb)
        replace Ba0 := Ba0.below hb
        replace Bq0 := Bq0.below hb
        replace L := bstep L L.size hb
        clear hb
        obtain ⟨ba0l, ba00, ba01, ba02⟩ := Ba0.c3
        go_wp2_with (fail)
        refine (markI_ok Sg0 ug0 (rEvaluateWord x0 x1 x2) (1) w21 Og0.out (by omega) (by omega)).mono ?_; rintro e w22 ⟨rfl, ow, ch⟩
        clear ba0l ba00 ba01 ba02
        replace Ow0 := Lib.hid (spI.own_chg Ow0.out ch Dw0_g0.out)
        replace Ba0 := Ba0.chg ch Na0_g0
        replace L := bstepS L L.size Hg0.out ch
        replace Og0 := Lib.hid ow
        clear ow ch
        have km : 0 ≤ 1 + (spI.cnt (rEvaluateWord x0 x1 x2) : Int) := by omega
        obtain ⟨ba0l, ba00, ba01, ba02⟩ := Ba0.c3
        go_wp2_with (fail)
        refine (heldI_ok ug0 (rEvaluateWord x0 x1 x2) 1 w22 (spI.own_rd Og0.out) (by omega) (by omega)).mono ?_; rintro e w23 ⟨rfl, hb⟩
        clear ba0l ba00 ba01 ba02
        replace Ow0 := Lib.hid (spI.own_below Ow0.out hb)
        replace Og0 := Lib.hid (spI.own_below Og0.out hb)
        replace Ba0 := Ba0.below hb
        replace L := bstep L L.size hb
        clear hb
        obtain ⟨ba0l, ba00, ba01, ba02⟩ := Ba0.c3
        go_wp2_with (fail)
        refine (toPres_ok (.agg #[.slice Aa0_0 na0_0 ca0_0, .slice Aa0_1 na0_1 ca0_1, .slice Aa0_2 na0_2 ca0_2]) x0 w23 (spPres.rd_below RW0.out L) s0').mono ?_; rintro e w24 ⟨ur0, Sr0, rfl, owr0, hSr0, hb⟩
        clear ba0l ba00 ba01 ba02
        have Dw0_r0 : Hid (∀ k, Sw0 k → ¬ Sr0 k) := Lib.hid fun k g1 g2 => by have := spI.own_lt Ow0.out g1; have := hSr0 k g2; omega
        have Dg0_r0 : Hid (∀ k, Sg0 k → ¬ Sr0 k) := Lib.hid fun k g1 g2 => by have := spI.own_lt Og0.out g1; have := hSr0 k g2; omega
        have Na0_r0 : ¬ Sr0 (w.heap.size) := fun g => by have := hSr0 _ g; have := Ba0.lt; omega
        have Hr0 : Hid (∀ k, Sr0 k → w.heap.size ≤ k) := Lib.hid fun k g => by have := hSr0 k g; have := L.size; omega
        replace Ow0 := Lib.hid (spI.own_below Ow0.out hb)
        replace Og0 := Lib.hid (spI.own_below Og0.out hb)
        replace Ba0 := Ba0.below hb
        replace L := bstep L L.size hb
        clear hb hSr0
        obtain ⟨Ar0_0, nr0_0, cr0_0, Ar0_1, nr0_1, cr0_1, Ar0_2, nr0_2, cr0_2, rfl, -, -, -⟩ := spPres_form (spPres.own_rd owr0)
        have Or0 := Lib.hid owr0
        clear owr0
        obtain ⟨ba0l, ba00, ba01, ba02⟩ := Ba0.c3
        go_wp2_with (fail)
        refine (toI_ok (.slice A1 x1.length c1) x1 w24 (spI.rd_below RW1.out L) s1').mono ?_; rintro e w25 ⟨ur1, Sr1, rfl, owr1, hSr1, hb⟩
        clear ba0l ba00 ba01 ba02
        have Dw0_r1 : Hid (∀ k, Sw0 k → ¬ Sr1 k) := Lib.hid fun k g1 g2 => by have := spI.own_lt Ow0.out g1; have := hSr1 k g2; omega
        have Dg0_r1 : Hid (∀ k, Sg0 k → ¬ Sr1 k) := Lib.hid fun k g1 g2 => by have := spI.own_lt Og0.out g1; have := hSr1 k g2; omega
        have Dr0_r1 : Hid (∀ k, Sr0 k → ¬ Sr1 k) := Lib.hid fun k g1 g2 => by have := spPres.own_lt Or0.out g1; have := hSr1 k g2; omega
        have Na0_r1 : ¬ Sr1 (w.heap.size) := fun g => by have := hSr1 _ g; have := Ba0.lt; omega
        have Hr1 : Hid (∀ k, Sr1 k → w.heap.size ≤ k) := Lib.hid fun k g => by have := hSr1 k g; have := L.size; omega
        replace Ow0 := Lib.hid (spI.own_below Ow0.out hb)
        replace Og0 := Lib.hid (spI.own_below Og0.out hb)
        replace Or0 := Lib.hid (spPres.own_below Or0.out hb)
        replace Ba0 := Ba0.below hb
        replace L := bstep L L.size hb
        clear hb hSr1
        have Or1 := Lib.hid owr1
        clear owr1
        obtain ⟨ba0l, ba00, ba01, ba02⟩ := Ba0.c3
        go_wp2_with (fail)
        refine (toII_ok (.slice A2 x2.length c2) x2 w25 (spII.rd_below RW2.out L) s2').mono ?_; rintro e w26 ⟨ur2, Sr2, rfl, owr2, hSr2, hb⟩
        clear ba0l ba00 ba01 ba02
        have Dw0_r2 : Hid (∀ k, Sw0 k → ¬ Sr2 k) := Lib.hid fun k g1 g2 => by have := spI.own_lt Ow0.out g1; have := hSr2 k g2; omega
        have Dg0_r2 : Hid (∀ k, Sg0 k → ¬ Sr2 k) := Lib.hid fun k g1 g2 => by have := spI.own_lt Og0.out g1; have := hSr2 k g2; omega
        have Dr0_r2 : Hid (∀ k, Sr0 k → ¬ Sr2 k) := Lib.hid fun k g1 g2 => by have := spPres.own_lt Or0.out g1; have := hSr2 k g2; omega
        have Dr1_r2 : Hid (∀ k, Sr1 k → ¬ Sr2 k) := Lib.hid fun k g1 g2 => by have := spI.own_lt Or1.out g1; have := hSr2 k g2; omega
        have Na0_r2 : ¬ Sr2 (w.heap.size) := fun g => by have := hSr2 _ g; have := Ba0.lt; omega
        have Hr2 : Hid (∀ k, Sr2 k → w.heap.size ≤ k) := Lib.hid fun k g => by have := hSr2 k g; have := L.size; omega
        replace Ow0 := Lib.hid (spI.own_below Ow0.out hb)
        replace Og0 := Lib.hid (spI.own_below Og0.out hb)
        replace Or0 := Lib.hid (spPres.own_below Or0.out hb)
        replace Or1 := Lib.hid (spI.own_below Or1.out hb)
        replace Ba0 := Ba0.below hb
        replace L := bstep L L.size hb
        clear hb hSr2
        have Or2 := Lib.hid owr2
        clear owr2
        obtain ⟨ba0l, ba00, ba01, ba02⟩ := Ba0.c3
        go_wp2_with (fail)
        refine (iEvaluateWord_ok (.agg #[.slice Ar0_0 nr0_0 cr0_0, .slice Ar0_1 nr0_1 cr0_1, .slice Ar0_2 nr0_2 cr0_2]) x0 ur1 x1 ur2 x2 w26 (presC_of Or0.out) (spI.own_rd Or1.out) (spII.own_rd Or2.out) s0' s1' s2').mono ?_; rintro e w27 ⟨uh0, Sh0, rfl, owh0, hSh0, hcnt, hb⟩
        clear ba0l ba00 ba01 ba02
        clear hcnt
        have Dw0_h0 : Hid (∀ k, Sw0 k → ¬ Sh0 k) := Lib.hid fun k g1 g2 => by have := spI.own_lt Ow0.out g1; have := hSh0 k g2; omega
        have Dg0_h0 : Hid (∀ k, Sg0 k → ¬ Sh0 k) := Lib.hid fun k g1 g2 => by have := spI.own_lt Og0.out g1; have := hSh0 k g2; omega
        have Dr0_h0 : Hid (∀ k, Sr0 k → ¬ Sh0 k) := Lib.hid fun k g1 g2 => by have := spPres.own_lt Or0.out g1; have := hSh0 k g2; omega
        have Dr1_h0 : Hid (∀ k, Sr1 k → ¬ Sh0 k) := Lib.hid fun k g1 g2 => by have := spI.own_lt Or1.out g1; have := hSh0 k g2; omega
        have Dr2_h0 : Hid (∀ k, Sr2 k → ¬ Sh0 k) := Lib.hid fun k g1 g2 => by have := spII.own_lt Or2.out g1; have := hSh0 k g2; omega
        have Na0_h0 : ¬ Sh0 (w.heap.size) := fun g => by have := hSh0 _ g; have := Ba0.lt; omega
        have Hh0 : Hid (∀ k, Sh0 k → w.heap.size ≤ k) := Lib.hid fun k g => by have := hSh0 k g; have := L.size; omega
        replace Ow0 := Lib.hid (spI.own_below Ow0.out hb)
        replace Og0 := Lib.hid (spI.own_below Og0.out hb)
        replace Or0 := Lib.hid (spPres.own_below Or0.out hb)
        replace Or1 := Lib.hid (spI.own_below Or1.out hb)
        replace Or2 := Lib.hid (spII.own_below Or2.out hb)
        replace Ba0 := Ba0.below hb
        replace L := bstep L L.size hb
        clear hb hSh0
        have Oh0 := Lib.hid owh0
        clear owh0
        obtain ⟨ba0l, ba00, ba01, ba02⟩ := Ba0.c3
        go_wp2_with (fail)
        refine (eqI_ok uh0 uw0 (rEvaluateWord x0 x1 x2) w27 (spI.own_rd Oh0.out) (spI.own_rd Ow0.out)).mono ?_; rintro e w28 ⟨rfl, hb⟩
        clear ba0l ba00 ba01 ba02
        replace Ow0 := Lib.hid (spI.own_below Ow0.out hb)
        replace Og0 := Lib.hid (spI.own_below Og0.out hb)
        replace Oh0 := Lib.hid (spI.own_below Oh0.out hb)
        replace Ba0 := Ba0.below hb
        replace L := bstep L L.size hb
        clear hb
        obtain ⟨ba0l, ba00, ba01, ba02⟩ := Ba0.c3
        go_wp2_with (fail)
        refine (heldI_ok ug0 (rEvaluateWord x0 x1 x2) 1 w28 (spI.own_rd Og0.out) (by omega) (by omega)).mono ?_; rintro e w29 ⟨rfl, hb⟩
        clear ba0l ba00 ba01 ba02
        replace Ow0 := Lib.hid (spI.own_below Ow0.out hb)
        replace Og0 := Lib.hid (spI.own_below Og0.out hb)
        replace Oh0 := Lib.hid (spI.own_below Oh0.out hb)
        replace Ba0 := Ba0.below hb
        replace L := bstep L L.size hb
        clear hb
        obtain ⟨ba0l, ba00, ba01, ba02⟩ := Ba0.c3
        go_wp2_with (fail)
        go_ret
        exact ⟨rfl, L⟩
      · obtain ⟨ba0l, ba00, ba01, ba02⟩ := Ba0.c3
        have HC := Lib.hid (szPres_ok (.agg #[.slice Aa0_0 na0_0 ca0_0, .slice Aa0_1 na0_1 ca0_1, .slice Aa0_2 na0_2 ca0_2]) x0 (1048576) (w.alloc (.cells [.slice Aa0_0 na0_0 ca0_0, .slice Aa0_1 na0_1 ca0_1, .slice Aa0_2 na0_2 ca0_2].toArray 26)) (spPres.rd_below RW0.out L) (by omega) (by omega))
        rw [szLeft_yes (n := spPres.sz x0) (left := 1048576) (by omega)] at HC
        have g0 : 0 ≤ 1048576 - (spPres.sz x0 : Int) := by omega
        have g0' : 1048576 - (spPres.sz x0 : Int) ≤ 1048576 := by omega
        go_enter Try.func12, Try.ntmps12
        go_wp2_with (fail)
        refine HC.out.mono ?_; rintro e w1 ⟨rfl, hb⟩
        clear ba0l ba00 ba01 ba02
        clear HC
        replace Ba0 := Ba0.below hb
        replace L := bstep L L.size hb
        clear hb
        obtain ⟨ba0l, ba00, ba01, ba02⟩ := Ba0.c3
        have HC := Lib.hid (szII_ok (.slice A2 x2.length c2) x2 (1048576 - (spPres.sz x0 : Int)) w1 (spII.rd_below RW2.out L) (by omega) (by omega))
        rw [szLeft_no (n := spII.sz x2) (left := 1048576 - (spPres.sz x0 : Int)) (by omega)] at HC
        go_wp2_with (fail)
        refine HC.out.mono ?_; rintro e w2 ⟨rfl, hb⟩
        clear ba0l ba00 ba01 ba02
        clear HC
        replace Ba0 := Ba0.below hb
        replace L := bstep L L.size hb
        clear hb
        obtain ⟨ba0l, ba00, ba01, ba02⟩ := Ba0.c3
        go_wp2_with (fail)
        go_ret
        exact ⟨rfl, L⟩
    · obtain ⟨ba0l, ba00, ba01, ba02⟩ := Ba0.c3
      have HC := Lib.hid (szPres_ok (.agg #[.slice Aa0_0 na0_0 ca0_0, .slice Aa0_1 na0_1 ca0_1, .slice Aa0_2 na0_2 ca0_2]) x0 (1048576) (w.alloc (.cells [.slice Aa0_0 na0_0 ca0_0, .slice Aa0_1 na0_1 ca0_1, .slice Aa0_2 na0_2 ca0_2].toArray 26)) (spPres.rd_below RW0.out L) (by omega) (by omega))
      rw [szLeft_no (n := spPres.sz x0) (left := 1048576) (by omega)] at HC
      go_enter Try.func12, Try.ntmps12
      go_wp2_with (fail)
      refine HC.out.mono ?_; rintro e w1 ⟨rfl, hb⟩
      clear ba0l ba00 ba01 ba02
      clear HC
      replace Ba0 := Ba0.below hb
      replace L := bstep L L.size hb
      clear hb
      obtain ⟨ba0l, ba00, ba01, ba02⟩ := Ba0.c3
      go_wp2_with (fail)
      go_ret
      exact ⟨rfl, L⟩
  · have s1'' : 1048576 < (x1.length : Int) := by omega
    go_enter Try.func12, Try.ntmps12
    go_wp2_with (fail)
    go_ret
    exact ⟨rfl, L⟩
theorem fnExactEvaluateWord_walk (v0 : Value) (x0 : Pres) (A1 : Option Addr) (c1 : Nat) (xs1 : List Int) (A2 : Option Addr) (c2 : Nat) (xss2 : List (List Int)) (w : World) (w0 : spPres.rd w v0 x0) (w1 : RdI w A1 xs1 ∧ xs1.length ≤ maxLen) (w2 : RdII w A2 xss2 ∧ (∀ j, j < xss2.length → (xss2.getD j []).length ≤ maxLen) ∧ xss2.length ≤ maxLen) :
    Calls Try.prog 12 #[v0, .slice A1 xs1.length c1, .slice A2 xss2.length c2] w fun e w' => e = .returned (.bool true) ∧ Below w.heap.size w w' :=
  fnExactEvaluateWord_run v0 x0 (.slice A1 xs1.length c1) xs1 (.slice A2 xss2.length c2) xss2 w w0 ⟨A1, c1, rfl, w1.2, w1.1⟩ (rdLists_of w2)
end Go.Proofs.Yteappjgdcbploaa
namespace Go.Proofs.Yteappjgdcbploaa.fnExactEvaluateWord
open Go.ChangeShapes Go.WideShapes Go.ChangeAt Go.RowKit
open Go.ChangeMaps (open_string shut_string)
set_option linter.unusedVariables false

theorem own : ownKnob Try.prog.godebug = none := by kernel_rfl
theorem laidOut : laidOutB Try.prog = true := by kernel_rfl

set_option maxRecDepth 100000 in
theorem lifted (os : Os) (started : os.Started) (H : Type) (enc : TypeId × Value → H) :
    ReturnsInHanded {} Try.checked os 12 .any (Rows.fnExactEvaluateWordSpec.pre6 enc Try.prog Try.f12 Rows.fnExactEvaluateWordRow.domain false) (Rows.fnExactEvaluateWordSpec.post enc Try.prog Try.f12 false true false false) := by
  refine returnsInHanded_of_change (C := Try.checked) own started (by kernel_rfl) Try.func12
    (ChangeSpec.witness6 (enc := enc) (C := Try.checked) false ⟨#[], #[.agg #[.slice none 0 0, .slice none 0 0, .slice none 0 0], .slice none 0 0, .slice none 0 0], []⟩ 8 (by kernel_rfl) (by kernel_rfl) (by kernel_rfl) (by kernel_rfl)) ?_
  intro W base args ds gs before hval0 hW hcnd _
  have hval : ∀ (j : Nat) t v, Try.f12.params[j]? = some t → args[j]? = some v → Value.okWide Try.prog W .any base t v := hval0
  have hW' := hW
  obtain ⟨p, q, hA0, hV, rfl, hfz, hnd⟩ := hW
  have hA : DataW.TrodAll enc Try.prog W 0 (fun _ => true) true Try.f12.params.toList args.toList ds p := hA0
  rw [Try.params12] at hA hval
  obtain ⟨v0, vs0, d0, ds0, p0, q0, hargs, rfl, rfl, h0, r0⟩ := trodAll_cons hA
  obtain ⟨v1, vs1, d1, ds1, p1, q1, rfl, rfl, rfl, h1, r1⟩ := trodAll_cons r0
  obtain ⟨v2, vs2, d2, ds2, p2, q2, rfl, rfl, rfl, h2, r2⟩ := trodAll_cons r1
  obtain ⟨rfl, rfl, rfl⟩ := trodAll_nil r2
  obtain rfl : args = #[v0, v1, v2] := by cases args; simp_all
  obtain ⟨rfl, rfl⟩ := trodVars_none hV
  have k0 := h0
  have lt0 : ∀ x ∈ p0, x.block < W.heap.size := by obtain ⟨m, hm⟩ := k0; exact DataW.trod_lt m _ _ _ hm
  obtain ⟨z0, w0⟩ := open_pres (hval 0 26 v0 rfl rfl) h0
  have k1 := h1
  have lt1 : ∀ x ∈ p1, x.block < W.heap.size := by obtain ⟨m, hm⟩ := k1; exact DataW.trod_lt m _ _ _ hm
  obtain ⟨a1, cap1, z1, rfl, w1⟩ := open_list (hval 1 22 v1 rfl rfl) h1
  have k2 := h2
  have lt2 : ∀ x ∈ p2, x.block < W.heap.size := by obtain ⟨m, hm⟩ := k2; exact DataW.trod_lt m _ _ _ hm
  obtain ⟨a2, cap2, z2, rfl, w2⟩ := open_lists (hval 2 23 v2 rfl rfl) h2
  clear hA0 hval0
  refine (fnExactEvaluateWord_walk v0 z0 a1 cap1 z1 a2 cap2 z2 W w0 w1 w2).mono fun e W' ⟨he, bel⟩ => ?_
  subst he
  exact ⟨_, rfl, _, _, _, [], _, [], hW', trodAll_mk1 (shut_bool Try.underlying4 _), (trodAll_cons_mk (Below.trod laidOut (by kernel_rfl) (of_decide_eq_true (by kernel_rfl)) k0 bel lt0) (trodAll_cons_mk (Below.trod laidOut (by kernel_rfl) (of_decide_eq_true (by kernel_rfl)) k1 bel lt1) (trodAll_cons_mk (Below.trod laidOut (by kernel_rfl) (of_decide_eq_true (by kernel_rfl)) k2 bel lt2) trodAll_mk0))), rfl, bel.frame _, fun h => by cases h⟩

theorem over : Rows.fnExactEvaluateWordRow.holds Try.pinned (OpenSpec.ofChange Rows.fnExactEvaluateWordSpec) :=
  OpenClaim.holds_of_wide 12 Try.f12 rfl rfl rfl rfl rfl rfl rfl ⟨rfl, rfl, rfl, rfl, rfl⟩ rfl rfl rfl rfl rfl (by kernel_rfl) Try.func12 joined
    (of_decide_eq_true (by kernel_rfl)) (by unfold Func.isWrapper; first | (rw [if_pos (by decide +kernel)]; kernel_rfl) | (rw [if_neg (by decide +kernel)]; exact ⟨rfl, rfl⟩))
    (fun os started H enc _ => lifted os started H enc)

theorem proved : Rows.FnExactEvaluateWordSaid := over
#print axioms proved
end Go.Proofs.Yteappjgdcbploaa.fnExactEvaluateWord
