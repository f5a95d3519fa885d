/- 'FnExactElementAt': for every input the call of the law returns true, and what its arguments hold reads as it did. No conditions. -/
import Derived.Test.YteappjgdcbploaaKB
import Derived.Test.YteappjgdcbploaaShPres
import Derived.Test.YteappjgdcbploaaQA
import Derived.Test.YteappjgdcbploaaRows
import Derived.Deep.Slices
import Derived.Deep.RegionHeld3
import Derived.Deep.DeepCutAuto
import Derived.WalkKit
import Derived.ProofKit
import Derived.OpenShut
import Derived.ShutString
import Derived.ChangeOld
import Derived.Below
namespace Go.Proofs.Yteappjgdcbploaa.fnExactElementAt
open Go.ChangeShapes Go.WideShapes Go.ChangeAt Go.RowKit
open Go.ChangeMaps (open_string shut_string)
set_option maxRecDepth 100000 in
theorem joined : joinedFacts Try.pinned.checked.prog 11 Try.f11 Rows.fnExactElementAtSpec Rows.fnExactElementAtRow = true := by kernel_rfl

end Go.Proofs.Yteappjgdcbploaa.fnExactElementAt
namespace Go.Proofs.Yteappjgdcbploaa
open Go.RowKit Go.ChangeShapes Go.WideShapes Go.ChangeAt
set_option linter.unusedVariables false
set_option linter.unusedSimpArgs false

set_option maxRecDepth 100000 in
/-- What a slice of slices of int64 that came in says. -/
theorem open_lists {H : Type} {enc : TypeId × Value → H} {W : World} {base : Nat} {v : Value} {d : DataW H} {p : List MemPlace}
    (hv : Value.okWide Try.prog W .any base 23 v) (h : DataW.Trod enc Try.prog W 0 (fun _ => true) true 23 v d p) :
    ∃ (A : Option Addr) (cap : Nat) (xss : List (List Int)), v = .slice A xss.length cap ∧ RdII W A xss ∧ (∀ j, j < xss.length → (xss.getD j []).length ≤ maxLen) ∧ xss.length ≤ maxLen := by
  obtain ⟨a0, len0, cap0, rfl⟩ := okWide_slice Try.underlying23 hv
  obtain ⟨fuel, hf⟩ := h
  rcases Go.Deep.open_int_rows Try.underlying23 Try.underlying22 Try.underlying2 (by kernel_rfl) (by kernel_rfl) hf with ⟨hc, _⟩ | ⟨a, len, cap, A, L, C', Z, hc, _, hl, hm, _, hr⟩
  · simp [Value.cells] at hc
    obtain ⟨rfl, rfl, rfl⟩ := hc
    exact ⟨none, 0, [], rfl, fun j hj => by simp at hj, fun j hj => by simp at hj, by simp⟩
  · simp [Value.cells] at hc
    obtain ⟨rfl, rfl, rfl⟩ := hc
    refine ⟨some a, cap0, (List.range len0).map fun r => (Z r).take (L r), by simp, fun j hj => ?_, fun j hj => ?_, by simp; omega⟩
    · have hj' : j < len0 := by simpa using hj
      obtain ⟨h1, h2, h3, h4, h5, h6, h7⟩ := hr j (by omega)
      obtain ⟨b, o, rfl⟩ := plain_of (hr 0 (by omega)).1
      have hcell : W.cell? ⟨b, o + j, none⟩ = some (.slice (A j) (L j) (C' j)) := by rw [← Go.WideShapes.add_plain]; exact h1
      have hg : ((List.range len0).map fun r => (Z r).take (L r)).getD j [] = (Z j).take (L j) := by simp [hj']
      rw [hg]
      have hlen : ((Z j).take (L j)).length = L j := by simp; omega
      rw [hlen]
      refine ⟨b, o, A j, C' j, rfl, World.block_lt_of_cell? W _ hcell, hcell, fun i hi => ?_⟩
      rw [hlen] at hi
      cases hA : A j with
      | none => have := h6 hA; omega
      | some a' =>
        obtain ⟨_, hcc⟩ := h7 a' hA
        have hci := hcc i (by omega)
        obtain ⟨b', o', rfl⟩ := plain_of (hcc 0 (by omega))
        have hcell' : W.cell? ⟨b', o' + i, none⟩ = some (.int .i64 ((Z j).getD i 0)) := by rw [← Go.WideShapes.add_plain]; exact hci
        refine ⟨b', o', rfl, World.block_lt_of_cell? W _ hcell', ?_⟩
        rw [hcell']
        simp [List.getElem?_take, hi]
    · have hj' : j < len0 := by simpa using hj
      obtain ⟨h1, h2, h3, h4, h5, h6, h7⟩ := hr j (by omega)
      have hg : ((List.range len0).map fun r => (Z r).take (L r)).getD j [] = (Z j).take (L j) := by simp [hj']
      rw [hg]
      simp; omega
theorem rdLists_of {w : World} {A : Option Addr} {c : Nat} {xss : List (List Int)} (h : RdII w A xss ∧ (∀ j, j < xss.length → (xss.getD j []).length ≤ maxLen) ∧ xss.length ≤ maxLen) : spII.rd w (.slice A xss.length c) xss := by
  obtain ⟨h1, h2, h3⟩ := h
  refine ⟨A, c, rfl, h3, fun j hj => ?_⟩
  obtain ⟨g, o, B, cB, e, hg, hc, hr⟩ := h1 j hj
  exact ⟨g, o, _, e, hg, hc, B, cB, rfl, h2 j hj, hr⟩
end Go.Proofs.Yteappjgdcbploaa
namespace Go.Proofs.Yteappjgdcbploaa
open Go.RowKit Go.ChangeShapes Go.WideShapes Go.ChangeAt
set_option linter.unusedVariables false
set_option linter.unusedSimpArgs false

section
variable {H : Type} {enc : TypeId × Value → H} {W : World}
theorem choose_to {α : Type} {p : Nat → α → Prop} (d : α) {n : Nat} (h : ∀ i, i < n → ∃ x, p i x) : ∃ f : Nat → α, ∀ i, i < n → p i (f i) := by
  classical
  refine ⟨fun i => if hi : i < n then (h i hi).choose else d, fun i hi => ?_⟩
  simp only [hi, dif_pos]
  exact (h i hi).choose_spec
theorem trod_ints {fuel : Nat} {u : Value} {x : DataW H × List MemPlace} (h : DataW.trod enc Try.prog W 0 (fun _ => true) true fuel 22 [u] = some x) : ∃ xs, spI.rd W u xs := by
  rcases open_ints Try.underlying22 Try.underlying2 (by kernel_rfl) h with ⟨hcs, _⟩ | ⟨x, l, c, zs, hcs, _, hl, hm, hz, _, hcell, hwz⟩
  · simp at hcs
    subst hcs
    exact ⟨[], none, 0, rfl, by simp, fun j hj => by simp at hj⟩
  · simp at hcs
    subst hcs
    have hz' : zs.length = c := by simpa using hz
    have hlen : (zs.take l).length = l := by simp; omega
    refine ⟨zs.take l, some x, c, by rw [hlen], by rw [hlen]; omega, fun j hj => ?_⟩
    rw [hlen] at hj
    obtain ⟨b, o, rfl, hc⟩ := ints_at hcell (by omega)
    have h1 := hc j (by omega)
    refine ⟨b, o, rfl, World.block_lt_of_cell? W _ h1, ?_⟩
    rw [h1]
    simp [List.getElem?_take, hj]
theorem trod_list {α : Type} {s : Sp α} {nul : α} {E t e : TypeId} (ht : Try.prog.underlying t = some (.slice e)) (hc : Try.prog.cellsOf e = 1)
    (each : ∀ n u y, DataW.trod enc Try.prog W 0 (fun _ => true) true n e [u] = some y → ∃ x, s.rd W u x) {fuel : Nat} {u : Value} {x : DataW H × List MemPlace}
    (h : DataW.trod enc Try.prog W 0 (fun _ => true) true fuel t [u] = some x) : ∃ xs, (spL E s nul).rd W u xs := by
  rcases Go.Deep.open_slice1 ht hc h with ⟨hcs, _⟩ | ⟨a, len, cap, m, n, V, D, Pl, hcs, _, hl, hm, hmm, _, hx⟩
  · simp at hcs
    subst hcs
    exact ⟨[], none, 0, rfl, by simp, fun j hj => by simp at hj⟩
  · simp at hcs
    subst hcs
    simp only [if_true] at hmm
    have hmm' := hmm.symm
    subst hmm'
    obtain ⟨X, hX⟩ := choose_to (p := fun r y => s.rd W (V r) y) nul (fun r (hr : r < cap) => each _ _ _ (hx r hr).2)
    refine ⟨(List.range len).map X, some a, cap, by simp, by simp; omega, fun j hj => ?_⟩
    have hj' : j < len := by simpa using hj
    obtain ⟨b, o, rfl⟩ := plain_of (hx 0 (by omega)).1
    have hcell : W.cell? ⟨b, o + j, none⟩ = some (V j) := by rw [← Go.WideShapes.add_plain]; exact (hx j (by omega)).1
    refine ⟨b, o, V j, rfl, World.block_lt_of_cell? W _ hcell, hcell, ?_⟩
    have hg : ((List.range len).map X).getD j nul = X j := by simp [hj']
    rw [hg]
    exact hX j (by omega)
set_option maxRecDepth 100000 in
/-- What a presentation by value says. -/
theorem open_pres {base : Nat} {v : Value} {d : DataW H} {p : List MemPlace}
    (hv : Value.okWide Try.prog W .any base 26 v) (h : DataW.Trod enc Try.prog W 0 (fun _ => true) true 26 v d p) : ∃ x : Pres, spPres.rd W v x := by
  obtain ⟨c0, c1, c2, y0, y1, y2, m, rfl, _, _, hy0, hy1, hy2⟩ := Go.Joins.open_agg3 Try.underlying26 (by kernel_rfl) (by kernel_rfl) hv h
  obtain ⟨O, hO⟩ := trod_ints hy0
  obtain ⟨R, hR⟩ := trod_list (s := spI) (nul := []) (E := 22) Try.underlying23 (by kernel_rfl) (fun n u y hh => trod_ints hh) hy1
  obtain ⟨J, hJ⟩ := trod_list (s := spII) (nul := []) (E := 23) Try.underlying24 (by kernel_rfl) (fun n u y hh => trod_list (s := spI) (nul := []) (E := 22) Try.underlying23 (by kernel_rfl) (fun n u y hh => trod_ints hh) hh) hy2
  exact ⟨⟨O, R, J⟩, _, _, _, rfl, hO, hR, hJ⟩
end
end Go.Proofs.Yteappjgdcbploaa
namespace Go.Proofs.Yteappjgdcbploaa
open Go.RowKit
set_option linter.unusedVariables false
set_option linter.unusedSimpArgs false

set_option maxRecDepth 100000 in
set_option maxHeartbeats 4000000 in
theorem fnExactElementAt_run (v0 : Value) (x0 : Pres) (x1 : Int) (w : World) (h0 : spPres.rd w v0 x0) :
    Calls Try.prog 11 #[v0, .int .i64 x1] w fun e w' => e = .returned (.bool true) ∧ Below w.heap.size w w' := by
  obtain ⟨Aa0_0, na0_0, ca0_0, Aa0_1, na0_1, ca0_1, Aa0_2, na0_2, ca0_2, rfl, -, -, -⟩ := spPres_form h0
  have L : Below w.heap.size w (w.alloc (.cells [.slice Aa0_0 na0_0 ca0_0, .slice Aa0_1 na0_1 ca0_1, .slice Aa0_2 na0_2 ca0_2].toArray 26)) := by go_grown
  have Ba0 : Blk (w.alloc (.cells [.slice Aa0_0 na0_0 ca0_0, .slice Aa0_1 na0_1 ca0_1, .slice Aa0_2 na0_2 ca0_2].toArray 26)) (w.heap.size) [.slice Aa0_0 na0_0 ca0_0, .slice Aa0_1 na0_1 ca0_1, .slice Aa0_2 na0_2 ca0_2] 26 := by have := Blk.new w [.slice Aa0_0 na0_0 ca0_0, .slice Aa0_1 na0_1 ca0_1, .slice Aa0_2 na0_2 ca0_2] 26; simpa only [World.size_alloc] using this
  have RW0 := Lib.hid h0
  clear h0
  by_cases s0 : (spPres.sz x0 : Int) ≤ 1048576
  · have s0' : spPres.sz x0 ≤ 1048576 := by omega
    obtain ⟨ba0l, ba00, ba01, ba02⟩ := Ba0.c3
    have HC := Lib.hid (szPres_ok (.agg #[.slice Aa0_0 na0_0 ca0_0, .slice Aa0_1 na0_1 ca0_1, .slice Aa0_2 na0_2 ca0_2]) x0 (1048576) (w.alloc (.cells [.slice Aa0_0 na0_0 ca0_0, .slice Aa0_1 na0_1 ca0_1, .slice Aa0_2 na0_2 ca0_2].toArray 26)) (spPres.rd_below RW0.out L) (by omega) (by omega))
    rw [szLeft_yes (n := spPres.sz x0) (left := 1048576) (by omega)] at HC
    have g0 : 0 ≤ 1048576 - (spPres.sz x0 : Int) := by omega
    have g0' : 1048576 - (spPres.sz x0 : Int) ≤ 1048576 := by omega
    go_enter Try.func11, Try.ntmps11
    go_wp2_with (fail)
    refine HC.out.mono ?_; rintro e w1 ⟨rfl, hb⟩
    clear ba0l ba00 ba01 ba02
    clear HC
    replace Ba0 := Ba0.below hb
    replace L := bstep L L.size hb
    clear hb
    obtain ⟨ba0l, ba00, ba01, ba02⟩ := Ba0.c3
    go_wp2_with (fail)
    refine (toPres_ok (.agg #[.slice Aa0_0 na0_0 ca0_0, .slice Aa0_1 na0_1 ca0_1, .slice Aa0_2 na0_2 ca0_2]) x0 w1 (spPres.rd_below RW0.out L) s0').mono ?_; rintro e w2 ⟨up0, Sp0, rfl, owp0, hSp0, hb⟩
    clear ba0l ba00 ba01 ba02
    have Na0_p0 : ¬ Sp0 (w.heap.size) := fun g => by have := hSp0 _ g; have := Ba0.lt; omega
    have Hp0 : Hid (∀ k, Sp0 k → w.heap.size ≤ k) := Lib.hid fun k g => by have := hSp0 k g; have := L.size; omega
    replace Ba0 := Ba0.below hb
    replace L := bstep L L.size hb
    clear hb hSp0
    obtain ⟨Ap0_0, np0_0, cp0_0, Ap0_1, np0_1, cp0_1, Ap0_2, np0_2, cp0_2, rfl, -, -, -⟩ := spPres_form (spPres.own_rd owp0)
    have Op0 := Lib.hid owp0
    clear owp0
    obtain ⟨ba0l, ba00, ba01, ba02⟩ := Ba0.c3
    go_wp2_with (fail)
    refine (sElementAt_ok (.agg #[.slice Ap0_0 np0_0 cp0_0, .slice Ap0_1 np0_1 cp0_1, .slice Ap0_2 np0_2 cp0_2]) x0 x1 w2 (spPres.own_rd Op0.out) s0').mono ?_; rintro e w3 ⟨uw0, Sw0, rfl, oww0, hSw0, hcnt, hb⟩
    clear ba0l ba00 ba01 ba02
    clear hcnt
    have Dp0_w0 : Hid (∀ k, Sp0 k → ¬ Sw0 k) := Lib.hid fun k g1 g2 => by have := spPres.own_lt Op0.out g1; have := hSw0 k g2; omega
    have Na0_w0 : ¬ Sw0 (w.heap.size) := fun g => by have := hSw0 _ g; have := Ba0.lt; omega
    have Hw0 : Hid (∀ k, Sw0 k → w.heap.size ≤ k) := Lib.hid fun k g => by have := hSw0 k g; have := L.size; omega
    replace Op0 := Lib.hid (spPres.own_below Op0.out hb)
    replace Ba0 := Ba0.below hb
    replace L := bstep L L.size hb
    clear hb hSw0
    have Ow0 := Lib.hid oww0
    clear oww0
    obtain ⟨ba0l, ba00, ba01, ba02⟩ := Ba0.c3
    go_wp2_with (fail)
    refine (toPres_ok (.agg #[.slice Aa0_0 na0_0 ca0_0, .slice Aa0_1 na0_1 ca0_1, .slice Aa0_2 na0_2 ca0_2]) x0 w3 (spPres.rd_below RW0.out L) s0').mono ?_; rintro e w4 ⟨uq0, Sq0, rfl, owq0, hSq0, hb⟩
    clear ba0l ba00 ba01 ba02
    have Dw0_q0 : Hid (∀ k, Sw0 k → ¬ Sq0 k) := Lib.hid fun k g1 g2 => by have := spI.own_lt Ow0.out g1; have := hSq0 k g2; omega
    have Na0_q0 : ¬ Sq0 (w.heap.size) := fun g => by have := hSq0 _ g; have := Ba0.lt; omega
    have Hq0 : Hid (∀ k, Sq0 k → w.heap.size ≤ k) := Lib.hid fun k g => by have := hSq0 k g; have := L.size; omega
    replace Ow0 := Lib.hid (spI.own_below Ow0.out hb)
    replace Ba0 := Ba0.below hb
    replace L := bstep L L.size hb
    clear hb hSq0
    obtain ⟨Aq0_0, nq0_0, cq0_0, Aq0_1, nq0_1, cq0_1, Aq0_2, nq0_2, cq0_2, rfl, -, -, -⟩ := spPres_form (spPres.own_rd owq0)
    have Oq0 := Lib.hid owq0
    clear owq0
    have Bq0 := Blk.new w4 [.slice Aq0_0 nq0_0 cq0_0, .slice Aq0_1 nq0_1 cq0_1, .slice Aq0_2 nq0_2 cq0_2] 29
    have Nq0_w0 : ¬ Sw0 w4.heap.size := fun g => by have := spI.own_lt Ow0.out g; omega
    have Nq0_q0 : ¬ Sq0 w4.heap.size := fun g => by have := spPres.own_lt Oq0.out g; omega
    have hbx : Below w4.heap.size w4 (w4.alloc (.cells [.slice Aq0_0 nq0_0 cq0_0, .slice Aq0_1 nq0_1 cq0_1, .slice Aq0_2 nq0_2 cq0_2].toArray 29)) := (Below.refl _ _).alloc (Nat.le_refl _) _
    replace Ow0 := Lib.hid (spI.own_below Ow0.out hbx)
    replace Oq0 := Lib.hid (spPres.own_below Oq0.out hbx)
    replace Ba0 := Ba0.below hbx
    replace L := bstep L L.size hbx
    clear hbx
    obtain ⟨ba0l, ba00, ba01, ba02⟩ := Ba0.c3
    obtain ⟨bq0l, bq00, bq01, bq02⟩ := Bq0.c3
    go_wp2_with (fail)
    refine (iElementAt_ok (.agg #[.slice Aq0_0 nq0_0 cq0_0, .slice Aq0_1 nq0_1 cq0_1, .slice Aq0_2 nq0_2 cq0_2]) x0 x1 (w4.alloc (.cells [.slice Aq0_0 nq0_0 cq0_0, .slice Aq0_1 nq0_1 cq0_1, .slice Aq0_2 nq0_2 cq0_2].toArray 29)) (presC_of Oq0.out) s0').mono ?_; rintro e w5 ⟨ug0, Sg0, rfl, owg0, hSg0, hcnt, hb⟩
    clear ba0l ba00 ba01 ba02 bq0l bq00 bq01 bq02
    have Dw0_g0 : Hid (∀ k, Sw0 k → ¬ Sg0 k) := Lib.hid fun k g1 g2 => by have := spI.own_lt Ow0.out g1; have := hSg0 k g2; omega
    have Dq0_g0 : Hid (∀ k, Sq0 k → ¬ Sg0 k) := Lib.hid fun k g1 g2 => by have := spPres.own_lt Oq0.out g1; have := hSg0 k g2; omega
    have Na0_g0 : ¬ Sg0 (w.heap.size) := fun g => by have := hSg0 _ g; have := Ba0.lt; omega
    have Nq0_g0 : ¬ Sg0 w4.heap.size := fun g => by have := hSg0 _ g; have := Bq0.lt; omega
    have Hg0 : Hid (∀ k, Sg0 k → w.heap.size ≤ k) := Lib.hid fun k g => by have := hSg0 k g; have := L.size; omega
    replace Ow0 := Lib.hid (spI.own_below Ow0.out hb)
    replace Oq0 := Lib.hid (spPres.own_below Oq0.out hb)
    replace Ba0 := Ba0.below hb
    replace Bq0 := Bq0.below hb
    replace L := bstep L L.size hb
    clear hb hSg0
    have Og0 := Lib.hid owg0
    clear owg0
    obtain ⟨ba0l, ba00, ba01, ba02⟩ := Ba0.c3
    obtain ⟨bq0l, bq00, bq01, bq02⟩ := Bq0.c3
    go_wp2_with (fail)
    refine (eqI_ok ug0 uw0 (rElementAt x0 x1) w5 (spI.own_rd Og0.out) (spI.own_rd Ow0.out)).mono ?_; rintro e w6 ⟨rfl, hb⟩
    clear ba0l ba00 ba01 ba02 bq0l bq00 bq01 bq02
    replace Ow0 := Lib.hid (spI.own_below Ow0.out hb)
    replace Oq0 := Lib.hid (spPres.own_below Oq0.out hb)
    replace Og0 := Lib.hid (spI.own_below Og0.out hb)
    replace Ba0 := Ba0.below hb
    replace Bq0 := Bq0.below hb
    replace L := bstep L L.size hb
    clear hb
    obtain ⟨ba0l, ba00, ba01, ba02⟩ := Ba0.c3
    obtain ⟨bq0l, bq00, bq01, bq02⟩ := Bq0.c3
    have HT := Lib.hid (toPres_ok (.agg #[.slice Aa0_0 na0_0 ca0_0, .slice Aa0_1 na0_1 ca0_1, .slice Aa0_2 na0_2 ca0_2]) x0 w6.drew (spPres.rd_drew (spPres.rd_below RW0.out L)) s0')
    go_wp2_with (fail)
    go_region_held3 (fun wx => wx.cell? ⟨w4.heap.size, 0, none⟩ = some (.slice Aq0_0 nq0_0 cq0_0) ∧ wx.cell? ⟨w4.heap.size, 1, none⟩ = some (.slice Aq0_1 nq0_1 cq0_1) ∧ wx.cell? ⟨w4.heap.size, 2, none⟩ = some (.slice Aq0_2 nq0_2 cq0_2) ∧ wx.cell? ⟨(w.heap.size), 0, none⟩ = some (.slice Aa0_0 na0_0 ca0_0) ∧ wx.cell? ⟨(w.heap.size), 1, none⟩ = some (.slice Aa0_1 na0_1 ca0_1) ∧ wx.cell? ⟨(w.heap.size), 2, none⟩ = some (.slice Aa0_2 na0_2 ca0_2)) (first | go_keep | assumption) (first | (go_at_call 18; refine HT.out.mono ?_; rintro e w7 ⟨ut0, St0, rfl, owt0, hSt0, hb⟩; have SM : w7.cell? ⟨w4.heap.size, 0, none⟩ = some (.slice Aq0_0 nq0_0 cq0_0) ∧ w7.cell? ⟨w4.heap.size, 1, none⟩ = some (.slice Aq0_1 nq0_1 cq0_1) ∧ w7.cell? ⟨w4.heap.size, 2, none⟩ = some (.slice Aq0_2 nq0_2 cq0_2) ∧ w7.cell? ⟨(w.heap.size), 0, none⟩ = some (.slice Aa0_0 na0_0 ca0_0) ∧ w7.cell? ⟨(w.heap.size), 1, none⟩ = some (.slice Aa0_1 na0_1 ca0_1) ∧ w7.cell? ⟨(w.heap.size), 2, none⟩ = some (.slice Aa0_2 na0_2 ca0_2) := ⟨(Blk.cell (Bq0.drew.below hb) 0 (by simp)), (Blk.cell (Bq0.drew.below hb) 1 (by simp)), (Blk.cell (Bq0.drew.below hb) 2 (by simp)), (Blk.cell (Ba0.drew.below hb) 0 (by simp)), (Blk.cell (Ba0.drew.below hb) 1 (by simp)), (Blk.cell (Ba0.drew.below hb) 2 (by simp))⟩) | (go_at_call 21; refine (eqPres_ok (.agg #[.slice Aq0_0 nq0_0 cq0_0, .slice Aq0_1 nq0_1 cq0_1, .slice Aq0_2 nq0_2 cq0_2]) _ x0 _ (spPres.rd_below (spPres.rd_drew (spPres.own_rd Oq0.out)) hb) (spPres.own_rd owt0)).mono ?_; rintro e w8 ⟨rfl, hb2⟩; have SM2 : w8.cell? ⟨w4.heap.size, 0, none⟩ = some (.slice Aq0_0 nq0_0 cq0_0) ∧ w8.cell? ⟨w4.heap.size, 1, none⟩ = some (.slice Aq0_1 nq0_1 cq0_1) ∧ w8.cell? ⟨w4.heap.size, 2, none⟩ = some (.slice Aq0_2 nq0_2 cq0_2) ∧ w8.cell? ⟨(w.heap.size), 0, none⟩ = some (.slice Aa0_0 na0_0 ca0_0) ∧ w8.cell? ⟨(w.heap.size), 1, none⟩ = some (.slice Aa0_1 na0_1 ca0_1) ∧ w8.cell? ⟨(w.heap.size), 2, none⟩ = some (.slice Aa0_2 na0_2 ca0_2) := ⟨(Blk.cell ((Bq0.drew.below hb).below hb2) 0 (by simp)), (Blk.cell ((Bq0.drew.below hb).below hb2) 1 (by simp)), (Blk.cell ((Bq0.drew.below hb).below hb2) 2 (by simp)), (Blk.cell ((Ba0.drew.below hb).below hb2) 0 (by simp)), (Blk.cell ((Ba0.drew.below hb).below hb2) 1 (by simp)), (Blk.cell ((Ba0.drew.below hb).below hb2) 2 (by simp))⟩))
    clear ba0l ba00 ba01 ba02 bq0l bq00 bq01 bq02
    have hd : Below w6.heap.size w6 w6.drew := (Below.refl _ _).drew
    replace Ow0 := Lib.hid (spI.own_below Ow0.out hd)
    replace Oq0 := Lib.hid (spPres.own_below Oq0.out hd)
    replace Og0 := Lib.hid (spI.own_below Og0.out hd)
    replace Ba0 := Ba0.below hd
    replace Bq0 := Bq0.below hd
    replace L := bstep L L.size hd
    replace Ow0 := Lib.hid (spI.own_below Ow0.out hb)
    replace Oq0 := Lib.hid (spPres.own_below Oq0.out hb)
    replace Og0 := Lib.hid (spI.own_below Og0.out hb)
    replace Ba0 := Ba0.below hb
    replace Bq0 := Bq0.below hb
    replace L := bstep L L.size hb
    replace Ow0 := Lib.hid (spI.own_below Ow0.out hb2)
    replace Oq0 := Lib.hid (spPres.own_below Oq0.out hb2)
    replace Og0 := Lib.hid (spI.own_below Og0.out hb2)
    replace Ba0 := Ba0.below hb2
    replace Bq0 := Bq0.below hb2
    replace L := bstep L L.size hb2
    clear hd hb hb2 HT SM SM2 owt0 hSt0
    have e0 := spPres_cnt x0
    obtain ⟨ba0l, ba00, ba01, ba02⟩ := Ba0.c3
    obtain ⟨bq0l, bq00, bq01, bq02⟩ := Bq0.c3
    go_wp2_with (fail)
    refine (markPres_ok Sq0 (.agg #[.slice Aq0_0 nq0_0 cq0_0, .slice Aq0_1 nq0_1 cq0_1, .slice Aq0_2 nq0_2 cq0_2]) x0 (1) w8 Oq0.out (by omega) (by omega)).mono ?_; rintro e w9 ⟨rfl, ow, ch⟩
    clear ba0l ba00 ba01 ba02 bq0l bq00 bq01 bq02
    replace Ow0 := Lib.hid (spI.own_chg Ow0.out ch Dw0_q0.out)
    replace Og0 := Lib.hid (spI.own_chg Og0.out ch (fun k g1 g2 => Dq0_g0.out k g2 g1))
    replace Ba0 := Ba0.chg ch Na0_q0
    replace Bq0 := Bq0.chg ch Nq0_q0
    replace L := bstepS L L.size Hq0.out ch
    replace Oq0 := Lib.hid ow
    clear ow ch
    have kp0 : 0 ≤ 1 + (spPres.cnt x0 : Int) := by omega
    obtain ⟨ba0l, ba00, ba01, ba02⟩ := Ba0.c3
    obtain ⟨bq0l, bq00, bq01, bq02⟩ := Bq0.c3
    go_wp2_with (fail)
    refine (eqI_ok ug0 uw0 (rElementAt x0 x1) w9 (spI.own_rd Og0.out) (spI.own_rd Ow0.out)).mono ?_; rintro e w10 ⟨rfl, hb⟩
    clear ba0l ba00 ba01 ba02 bq0l bq00 bq01 bq02
    replace Ow0 := Lib.hid (spI.own_below Ow0.out hb)
    replace Oq0 := Lib.hid (spPres.own_below Oq0.out hb)
    replace Og0 := Lib.hid (spI.own_below Og0.out hb)
    replace Ba0 := Ba0.below hb
    replace Bq0 := Bq0.below hb
    replace L := bstep L L.size hb
    clear hb
    obtain ⟨ba0l, ba00, ba01, ba02⟩ := Ba0.c3
    go_wp2_with (fail)
    refine (markI_ok Sg0 ug0 (rElementAt x0 x1) (1) w10 Og0.out (by omega) (by omega)).mono ?_; rintro e w11 ⟨rfl, ow, ch⟩
    clear ba0l ba00 ba01 ba02
    replace Ow0 := Lib.hid (spI.own_chg Ow0.out ch Dw0_g0.out)
    replace Ba0 := Ba0.chg ch Na0_g0
    replace L := bstepS L L.size Hg0.out ch
    replace Og0 := Lib.hid ow
    clear ow ch
    have km : 0 ≤ 1 + (spI.cnt (rElementAt x0 x1) : Int) := by omega
    obtain ⟨ba0l, ba00, ba01, ba02⟩ := Ba0.c3
    go_wp2_with (fail)
    refine (heldI_ok ug0 (rElementAt x0 x1) 1 w11 (spI.own_rd Og0.out) (by omega) (by omega)).mono ?_; rintro e w12 ⟨rfl, hb⟩
    clear ba0l ba00 ba01 ba02
    replace Ow0 := Lib.hid (spI.own_below Ow0.out hb)
    replace Og0 := Lib.hid (spI.own_below Og0.out hb)
    replace Ba0 := Ba0.below hb
    replace L := bstep L L.size hb
    clear hb
    obtain ⟨ba0l, ba00, ba01, ba02⟩ := Ba0.c3
    go_wp2_with (fail)
    refine (toPres_ok (.agg #[.slice Aa0_0 na0_0 ca0_0, .slice Aa0_1 na0_1 ca0_1, .slice Aa0_2 na0_2 ca0_2]) x0 w12 (spPres.rd_below RW0.out L) s0').mono ?_; rintro e w13 ⟨ur0, Sr0, rfl, owr0, hSr0, hb⟩
    clear ba0l ba00 ba01 ba02
    have Dw0_r0 : Hid (∀ k, Sw0 k → ¬ Sr0 k) := Lib.hid fun k g1 g2 => by have := spI.own_lt Ow0.out g1; have := hSr0 k g2; omega
    have Dg0_r0 : Hid (∀ k, Sg0 k → ¬ Sr0 k) := Lib.hid fun k g1 g2 => by have := spI.own_lt Og0.out g1; have := hSr0 k g2; omega
    have Na0_r0 : ¬ Sr0 (w.heap.size) := fun g => by have := hSr0 _ g; have := Ba0.lt; omega
    have Hr0 : Hid (∀ k, Sr0 k → w.heap.size ≤ k) := Lib.hid fun k g => by have := hSr0 k g; have := L.size; omega
    replace Ow0 := Lib.hid (spI.own_below Ow0.out hb)
    replace Og0 := Lib.hid (spI.own_below Og0.out hb)
    replace Ba0 := Ba0.below hb
    replace L := bstep L L.size hb
    clear hb hSr0
    obtain ⟨Ar0_0, nr0_0, cr0_0, Ar0_1, nr0_1, cr0_1, Ar0_2, nr0_2, cr0_2, rfl, -, -, -⟩ := spPres_form (spPres.own_rd owr0)
    have Or0 := Lib.hid owr0
    clear owr0
    obtain ⟨ba0l, ba00, ba01, ba02⟩ := Ba0.c3
    go_wp2_with (fail)
    refine (iElementAt_ok (.agg #[.slice Ar0_0 nr0_0 cr0_0, .slice Ar0_1 nr0_1 cr0_1, .slice Ar0_2 nr0_2 cr0_2]) x0 x1 w13 (presC_of Or0.out) s0').mono ?_; rintro e w14 ⟨uh0, Sh0, rfl, owh0, hSh0, hcnt, hb⟩
    clear ba0l ba00 ba01 ba02
    clear hcnt
    have Dw0_h0 : Hid (∀ k, Sw0 k → ¬ Sh0 k) := Lib.hid fun k g1 g2 => by have := spI.own_lt Ow0.out g1; have := hSh0 k g2; omega
    have Dg0_h0 : Hid (∀ k, Sg0 k → ¬ Sh0 k) := Lib.hid fun k g1 g2 => by have := spI.own_lt Og0.out g1; have := hSh0 k g2; omega
    have Dr0_h0 : Hid (∀ k, Sr0 k → ¬ Sh0 k) := Lib.hid fun k g1 g2 => by have := spPres.own_lt Or0.out g1; have := hSh0 k g2; omega
    have Na0_h0 : ¬ Sh0 (w.heap.size) := fun g => by have := hSh0 _ g; have := Ba0.lt; omega
    have Hh0 : Hid (∀ k, Sh0 k → w.heap.size ≤ k) := Lib.hid fun k g => by have := hSh0 k g; have := L.size; omega
    replace Ow0 := Lib.hid (spI.own_below Ow0.out hb)
    replace Og0 := Lib.hid (spI.own_below Og0.out hb)
    replace Or0 := Lib.hid (spPres.own_below Or0.out hb)
    replace Ba0 := Ba0.below hb
    replace L := bstep L L.size hb
    clear hb hSh0
    have Oh0 := Lib.hid owh0
    clear owh0
    obtain ⟨ba0l, ba00, ba01, ba02⟩ := Ba0.c3
    go_wp2_with (fail)
    refine (eqI_ok uh0 uw0 (rElementAt x0 x1) w14 (spI.own_rd Oh0.out) (spI.own_rd Ow0.out)).mono ?_; rintro e w15 ⟨rfl, hb⟩
    clear ba0l ba00 ba01 ba02
    replace Ow0 := Lib.hid (spI.own_below Ow0.out hb)
    replace Og0 := Lib.hid (spI.own_below Og0.out hb)
    replace Oh0 := Lib.hid (spI.own_below Oh0.out hb)
    replace Ba0 := Ba0.below hb
    replace L := bstep L L.size hb
    clear hb
    obtain ⟨ba0l, ba00, ba01, ba02⟩ := Ba0.c3
    go_wp2_with (fail)
    refine (heldI_ok ug0 (rElementAt x0 x1) 1 w15 (spI.own_rd Og0.out) (by omega) (by omega)).mono ?_; rintro e w16 ⟨rfl, hb⟩
    clear ba0l ba00 ba01 ba02
    replace Ow0 := Lib.hid (spI.own_below Ow0.out hb)
    replace Og0 := Lib.hid (spI.own_below Og0.out hb)
    replace Oh0 := Lib.hid (spI.own_below Oh0.out hb)
    replace Ba0 := Ba0.below hb
    replace L := bstep L L.size hb
    clear hb
    obtain ⟨ba0l, ba00, ba01, ba02⟩ := Ba0.c3
    go_wp2_with (fail)
    go_ret
    exact ⟨rfl, L⟩
  · obtain ⟨ba0l, ba00, ba01, ba02⟩ := Ba0.c3
    have HC := Lib.hid (szPres_ok (.agg #[.slice Aa0_0 na0_0 ca0_0, .slice Aa0_1 na0_1 ca0_1, .slice Aa0_2 na0_2 ca0_2]) x0 (1048576) (w.alloc (.cells [.slice Aa0_0 na0_0 ca0_0, .slice Aa0_1 na0_1 ca0_1, .slice Aa0_2 na0_2 ca0_2].toArray 26)) (spPres.rd_below RW0.out L) (by omega) (by omega))
    rw [szLeft_no (n := spPres.sz x0) (left := 1048576) (by omega)] at HC
    go_enter Try.func11, Try.ntmps11
    go_wp2_with (fail)
    refine HC.out.mono ?_; rintro e w1 ⟨rfl, hb⟩
    clear ba0l ba00 ba01 ba02
    clear HC
    replace Ba0 := Ba0.below hb
    replace L := bstep L L.size hb
    clear hb
    obtain ⟨ba0l, ba00, ba01, ba02⟩ := Ba0.c3
    go_wp2_with (fail)
    go_ret
    exact ⟨rfl, L⟩
theorem fnExactElementAt_walk (v0 : Value) (x0 : Pres) (a1 : Int) (w : World) (w0 : spPres.rd w v0 x0) (w1 : (Lit.int .i64 a1).wf = true) :
    Calls Try.prog 11 #[v0, .int .i64 a1] w fun e w' => e = .returned (.bool true) ∧ Below w.heap.size w w' :=
  fnExactElementAt_run v0 x0 a1 w w0
end Go.Proofs.Yteappjgdcbploaa
namespace Go.Proofs.Yteappjgdcbploaa.fnExactElementAt
open Go.ChangeShapes Go.WideShapes Go.ChangeAt Go.RowKit
open Go.ChangeMaps (open_string shut_string)
set_option linter.unusedVariables false

theorem own : ownKnob Try.prog.godebug = none := by kernel_rfl
theorem laidOut : laidOutB Try.prog = true := by kernel_rfl

set_option maxRecDepth 100000 in
theorem lifted (os : Os) (started : os.Started) (H : Type) (enc : TypeId × Value → H) :
    ReturnsInHanded {} Try.checked os 11 .any (Rows.fnExactElementAtSpec.pre6 enc Try.prog Try.f11 Rows.fnExactElementAtRow.domain false) (Rows.fnExactElementAtSpec.post enc Try.prog Try.f11 false true false false) := by
  refine returnsInHanded_of_change (C := Try.checked) own started (by kernel_rfl) Try.func11
    (ChangeSpec.witness6 (enc := enc) (C := Try.checked) false ⟨#[], #[.agg #[.slice none 0 0, .slice none 0 0, .slice none 0 0], .int .i64 0], []⟩ 8 (by kernel_rfl) (by kernel_rfl) (by kernel_rfl) (by kernel_rfl)) ?_
  intro W base args ds gs before hval0 hW hcnd _
  have hval : ∀ (j : Nat) t v, Try.f11.params[j]? = some t → args[j]? = some v → Value.okWide Try.prog W .any base t v := hval0
  have hW' := hW
  obtain ⟨p, q, hA0, hV, rfl, hfz, hnd⟩ := hW
  have hA : DataW.TrodAll enc Try.prog W 0 (fun _ => true) true Try.f11.params.toList args.toList ds p := hA0
  rw [Try.params11] at hA hval
  obtain ⟨v0, vs0, d0, ds0, p0, q0, hargs, rfl, rfl, h0, r0⟩ := trodAll_cons hA
  obtain ⟨v1, vs1, d1, ds1, p1, q1, rfl, rfl, rfl, h1, r1⟩ := trodAll_cons r0
  obtain ⟨rfl, rfl, rfl⟩ := trodAll_nil r1
  obtain rfl : args = #[v0, v1] := by cases args; simp_all
  obtain ⟨rfl, rfl⟩ := trodVars_none hV
  have k0 := h0
  have lt0 : ∀ x ∈ p0, x.block < W.heap.size := by obtain ⟨m, hm⟩ := k0; exact DataW.trod_lt m _ _ _ hm
  obtain ⟨z0, w0⟩ := open_pres (hval 0 26 v0 rfl rfl) h0
  obtain ⟨a1, rfl, rfl, rfl, w1⟩ := open_int Try.underlying2 (hval 1 2 v1 rfl rfl) h1
  clear hA0 hval0
  refine (fnExactElementAt_walk v0 z0 a1 W w0 w1).mono fun e W' ⟨he, bel⟩ => ?_
  subst he
  exact ⟨_, rfl, _, _, _, [], _, [], hW', trodAll_mk1 (shut_bool Try.underlying4 _), (trodAll_cons_mk (Below.trod laidOut (by kernel_rfl) (of_decide_eq_true (by kernel_rfl)) k0 bel lt0) (trodAll_cons_mk (shut_int Try.underlying2 w1) trodAll_mk0)), rfl, bel.frame _, fun h => by cases h⟩

theorem over : Rows.fnExactElementAtRow.holds Try.pinned (OpenSpec.ofChange Rows.fnExactElementAtSpec) :=
  OpenClaim.holds_of_wide 11 Try.f11 rfl rfl rfl rfl rfl rfl rfl ⟨rfl, rfl, rfl, rfl, rfl⟩ rfl rfl rfl rfl rfl (by kernel_rfl) Try.func11 joined
    (of_decide_eq_true (by kernel_rfl)) (by unfold Func.isWrapper; first | (rw [if_pos (by decide +kernel)]; kernel_rfl) | (rw [if_neg (by decide +kernel)]; exact ⟨rfl, rfl⟩))
    (fun os started H enc _ => lifted os started H enc)

theorem proved : Rows.FnExactElementAtSaid := over
#print axioms proved
end Go.Proofs.Yteappjgdcbploaa.fnExactElementAt
