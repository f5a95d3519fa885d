/- Slices of slices of int64, and a matrix by value: what comes in, what the laws measure and copy. -/
import Derived.Test.YtggkoihlmijacaaRows
import Derived.Test.YtggkoihlmijacaaOw
import Derived.WalkKit
import Derived.WalkSpells
import Derived.WalkLawsBesides
import Derived.ProofKit
import Derived.OpenShut
import Derived.Lib.SmallJoins
import Derived.Lib.Hide
import Derived.Deep.Matrix
import Derived.Deep.QuietTactic
import Derived.BigQuiet
import Derived.Handy
import Derived.OwnWalk
import Derived.Deep.RegionHeld3
namespace Go.Proofs.Ytggkoihlmijacaa
open Go.RowKit Go.ChangeShapes Go.WideShapes Go.ChangeAt
set_option linter.unusedVariables false
set_option linter.unusedSimpArgs false

/-- The rows that a slice of slices leads to: for each its slice value and its numbers. -/
def RdII (w : World) (A : Option Addr) (xss : List (List Int)) : Prop :=
  ∀ j, j < xss.length → ∃ g o B c, A = some ⟨g, o, none⟩ ∧ g < w.heap.size ∧ w.cell? ⟨g, o + j, none⟩ = some (.slice B (xss.getD j []).length c) ∧ RdI w B (xss.getD j [])
theorem plain_of {w : World} {a : Addr} {v : Value} (h : w.cell? (a.add 0) = some v) : ∃ b o, a = ⟨b, o, none⟩ := by
  obtain ⟨b, o, spot⟩ := a
  have hs : spot = none := by simpa [Addr.add] using World.cell?_spot h
  subst hs
  exact ⟨b, o, rfl⟩

theorem RdII.below' {w w' : World} {A : Option Addr} {xss : List (List Int)} (h : RdII w A xss) (hb : Below w.heap.size w w') : RdII w' A xss := by
  intro j hj
  obtain ⟨g, o, B, c, rfl, hg, hc, hr⟩ := h j hj
  exact ⟨g, o, B, c, rfl, by have := hb.size; omega, by rw [hb.cell hg]; exact hc, hr.below' hb⟩

set_option maxRecDepth 100000 in
/-- What a slice of int64 that came in says. -/
theorem open_list {H : Type} {enc : TypeId × Value → H} {W : World} {base : Nat} {v : Value} {d : DataW H} {p : List MemPlace}
    (hv : Value.okWide Try.prog W .any base 31 v) (h : DataW.Trod enc Try.prog W 0 (fun _ => true) true 31 v d p) :
    ∃ (A : Option Addr) (cap : Nat) (xs : List Int), v = .slice A xs.length cap ∧ RdI W A xs ∧ xs.length ≤ maxLen := by
  obtain ⟨a0, len0, cap0, rfl⟩ := okWide_slice Try.underlying31 hv
  obtain ⟨fuel, hf⟩ := h
  rcases open_ints Try.underlying31 Try.underlying2 (by kernel_rfl) hf with ⟨hcs, _⟩ | ⟨x, l, c, zs, hcs, _, hl, hm, hz, _, hcell, hwz⟩
  · simp [Value.cells] at hcs
    obtain ⟨rfl, rfl, rfl⟩ := hcs
    exact ⟨none, 0, [], rfl, fun j hj => by simp at hj, by simp⟩
  · simp [Value.cells] at hcs
    obtain ⟨rfl, rfl, rfl⟩ := hcs
    have hz' : zs.length = cap0 := by simpa using hz
    have hlen : (zs.take len0).length = len0 := by simp; omega
    refine ⟨some x, cap0, zs.take len0, by rw [hlen], fun j hj => ?_, by rw [hlen]; omega⟩
    rw [hlen] at hj
    obtain ⟨b, o, rfl, hc⟩ := ints_at hcell (by omega)
    have h1 := hc j (by omega)
    refine ⟨b, o, rfl, World.block_lt_of_cell? W _ h1, ?_⟩
    rw [h1]
    simp [List.getElem?_take, hj]

set_option maxRecDepth 100000 in
/-- What a matrix by value says. -/
theorem open_mat {H : Type} {enc : TypeId × Value → H} {W : World} {base : Nat} {v : Value} {d : DataW H} {p : List MemPlace}
    (hv : Value.okWide Try.prog W .any base 24 v) (h : DataW.Trod enc Try.prog W 0 (fun _ => true) true 24 v d p) :
    ∃ (P C : Int) (A : Option Addr) (cap : Nat) (xss : List (List Int)), v = .agg #[.int .i64 P, .int .i64 C, .slice A xss.length cap] ∧ RdII W A xss ∧ (∀ j, j < xss.length → (xss.getD j []).length ≤ maxLen) ∧ xss.length ≤ maxLen := by
  obtain ⟨c0, c1, c2, y0, y1, y2, m, rfl, _, _, hy0, hy1, hy2⟩ := Go.Joins.open_agg3 Try.underlying24 (by kernel_rfl) (by kernel_rfl) hv h
  obtain ⟨P, e0, _, _⟩ := DataW.trod_int Try.underlying2 hy0
  obtain ⟨C, e1, _, _⟩ := DataW.trod_int Try.underlying2 hy1
  simp at e0 e1
  subst e0 e1
  rcases Go.Deep.open_int_rows Try.underlying22 Try.underlying31 Try.underlying2 (by kernel_rfl) (by kernel_rfl) hy2 with ⟨hc, _⟩ | ⟨a, len, cap, A, L, C', Z, hc, _, hl, hm, _, hr⟩
  · simp at hc
    subst hc
    exact ⟨P, C, none, 0, [], rfl, fun j hj => by simp at hj, fun j hj => by simp at hj, by simp⟩
  · simp at hc
    subst hc
    refine ⟨P, C, some a, cap, (List.range len).map fun r => (Z r).take (L r), by simp, fun j hj => ?_, fun j hj => ?_, by simp; omega⟩
    · have hj' : j < len := by simpa using hj
      obtain ⟨h1, h2, h3, h4, h5, h6, h7⟩ := hr j (by omega)
      obtain ⟨b, o, rfl⟩ := plain_of (hr 0 (by omega)).1
      have hcell : W.cell? ⟨b, o + j, none⟩ = some (.slice (A j) (L j) (C' j)) := by rw [← Go.WideShapes.add_plain]; exact h1
      have hg : ((List.range len).map fun r => (Z r).take (L r)).getD j [] = (Z j).take (L j) := by simp [hj']
      rw [hg]
      have hlen : ((Z j).take (L j)).length = L j := by simp; omega
      rw [hlen]
      refine ⟨b, o, A j, C' j, rfl, World.block_lt_of_cell? W _ hcell, hcell, fun i hi => ?_⟩
      rw [hlen] at hi
      cases hA : A j with
      | none => have := h6 hA; omega
      | some a' =>
        obtain ⟨_, hcc⟩ := h7 a' hA
        have hci := hcc i (by omega)
        obtain ⟨b', o', rfl⟩ := plain_of (hcc 0 (by omega))
        have hcell' : W.cell? ⟨b', o' + i, none⟩ = some (.int .i64 ((Z j).getD i 0)) := by rw [← Go.WideShapes.add_plain]; exact hci
        refine ⟨b', o', rfl, World.block_lt_of_cell? W _ hcell', ?_⟩
        rw [hcell']
        simp [List.getElem?_take, hi]
    · have hj' : j < len := by simpa using hj
      obtain ⟨h1, h2, h3, h4, h5, h6, h7⟩ := hr j (by omega)
      have hg : ((List.range len).map fun r => (Z r).take (L r)).getD j [] = (Z j).take (L j) := by simp [hj']
      rw [hg]
      simp; omega

/-! ### How much there is -/
def rowsum (xss : List (List Int)) : Nat := (xss.map List.length).sum
def bulk (xss : List (List Int)) : Nat := xss.length + rowsum xss
/-- What is left of a measure, -1 if it isn't enough. -/
def szOf (xss : List (List Int)) (left : Int) : Int := if (bulk xss : Int) ≤ left then left - bulk xss else -1
theorem szOf_yes {xss : List (List Int)} {left : Int} (h : (bulk xss : Int) ≤ left) : szOf xss left = left - bulk xss := if_pos h
theorem szOf_no {xss : List (List Int)} {left : Int} (h : left < bulk xss) : szOf xss left = -1 := if_neg (by omega)
theorem ret_i {k : IntKind} {a b : Int} (h : a = b) : Ending.returned (.int k a) = .returned (.int k b) := by rw [h]
theorem rowsum_take (xss : List (List Int)) (j : Nat) (hj : j < xss.length) : rowsum (xss.take (j + 1)) = rowsum (xss.take j) + (xss.getD j []).length := by
  unfold rowsum
  rw [List.take_succ_eq_append_getElem hj, List.map_append, List.sum_append]
  simp [hj]
theorem rowsum_le (xss : List (List Int)) (j : Nat) : rowsum (xss.take j) ≤ rowsum xss := by
  unfold rowsum
  conv => rhs; rw [← List.take_append_drop j xss, List.map_append, List.sum_append]
  omega
theorem RdII.row {w : World} {A : Option Addr} {xss : List (List Int)} (h : RdII w A xss) {j : Nat} (hj : j < xss.length) :
    ∃ g o B c, A = some ⟨g, o, none⟩ ∧ w.cell? ⟨g, o + j, none⟩ = some (.slice B (xss.getD j []).length c) ∧ RdI w B (xss.getD j []) := by
  obtain ⟨g, o, B, c, h1, _, h2, h3⟩ := h j hj
  exact ⟨g, o, B, c, h1, h2, h3⟩

theorem szI_yes (A : Option Addr) (n c : Nat) (left : Int) (w : World) (h : (n : Int) ≤ left) (hl : left ≤ 1048576) :
    Calls Try.prog 95 #[.slice A n c, .int .i64 left] w fun e w' => e = .returned (.int .i64 (left - n)) ∧ w = w' := by
  go_enter Try.func95, Try.ntmps95
  go_wp2
  go_ret
  exact ⟨rfl, rfl⟩
theorem szI_no (A : Option Addr) (n c : Nat) (left : Int) (w : World) (h0 : 0 ≤ left) (h : left < n) (hl : left ≤ 1048576) (hn : n ≤ maxLen) :
    Calls Try.prog 95 #[.slice A n c, .int .i64 left] w fun e w' => e = .returned (.int .i64 (-1)) ∧ w = w' := by
  unfold maxLen at hn
  go_enter Try.func95, Try.ntmps95
  go_wp2
  go_ret
  exact ⟨rfl, rfl⟩
set_option maxHeartbeats 400000 in
theorem szII_any (A : Option Addr) (c : Nat) (xss : List (List Int)) (left : Int) (w : World) (h : RdII w A xss) (hm : ∀ j, j < xss.length → (xss.getD j []).length ≤ maxLen) (hx : xss.length ≤ maxLen) (h0 : 0 ≤ left) (hl : left ≤ 1048576) :
    Calls Try.prog 42 #[.slice A xss.length c, .int .i64 left] w fun e w' => e = .returned (.int .i64 (szOf xss left)) ∧ w = w' := by
  have hx' := hx
  unfold maxLen at hx'
  by_cases hs : left < xss.length
  · rw [szOf_no (by unfold bulk; omega)]
    go_enter Try.func42, Try.ntmps42
    go_wp2
    go_ret
    exact ⟨rfl, rfl⟩
  · go_enter Try.func42, Try.ntmps42
    go_wp2
    go_loop [1, 5] (fun s1 s5 => ∃ (j : Nat), s5 = .int .i64 j ∧ j ≤ xss.length ∧ s1 = .int .i64 (left - xss.length - rowsum (xss.take j)) ∧ 0 ≤ left - xss.length - rowsum (xss.take j)) (fun _ s5 => xss.length - (intOf s5).toNat)
    case atStart => exact ⟨0, rfl, by omega, by simp [rowsum], by simp [rowsum]; omega⟩
    case round =>
      obtain ⟨j, rfl, hj, rfl, hp⟩ := hrel
      have hle := rowsum_le xss j
      by_cases hlt : j < xss.length
      · obtain ⟨g, o, B, cc, rfl, hc, _⟩ := h.row hlt
        have hlen := hm j hlt
        have hst := rowsum_take xss j hlt
        have hle2 := rowsum_le xss (j + 1)
        have HST := Lib.hid hst
        clear hst
        generalize hL : left - (xss.length : Int) - (rowsum (xss.take j) : Int) = L at *
        have HL := Lib.hid hL
        clear hL
        have L1 : L ≤ 1048576 := by have := HL.out; omega
        have i0 : (0 : Int) ≤ (j : Int) := by omega
        have i1 : (j : Int) < (xss.length : Int) := by omega
        by_cases hfit : ((xss.getD j []).length : Int) ≤ L
        · have HR : Hid (L - ((xss.getD j []).length : Int) = left - xss.length - rowsum (xss.take (j + 1))) := Lib.hid (by have := HST.out; have := HL.out; omega)
          generalize (xss.getD j []).length = n at *
          go_wp2_with (go_at_call 95; refine (szI_yes _ _ _ _ _ hfit L1).mono ?_; rintro e w' ⟨rfl, rfl⟩)
          exact ⟨⟨j + 1, by go_num, by omega, by rw [HR.out], by have := HR.out; omega⟩, by simp [intOf]; omega⟩
        · have HB : Hid (szOf xss left = -1) := Lib.hid (szOf_no (by unfold bulk; have := HST.out; have := HL.out; omega))
          generalize (xss.getD j []).length = n at *
          go_wp2_with (go_at_call 95; refine (szI_no _ _ _ _ _ hp (by omega) L1 hlen).mono ?_; rintro e w' ⟨rfl, rfl⟩)
          go_ret
          exact ⟨ret_i HB.out.symm, rfl⟩
      · obtain rfl : j = xss.length := by omega
        have hge : ¬ ((xss.length : Int) < (xss.length : Int)) := by omega
        have HB : Hid (left - (xss.length : Int) - (rowsum (xss.take xss.length) : Int) = szOf xss left) := Lib.hid (by
          rw [List.take_length] at hp ⊢
          rw [szOf_yes (by unfold bulk; omega)]
          unfold bulk
          omega)
        go_wp2
        go_ret
        exact ⟨ret_i (by have := HB.out; rwa [List.take_length] at this), rfl⟩
theorem szM_any (P C : Int) (A : Option Addr) (c : Nat) (xss : List (List Int)) (left : Int) (w : World) (h : RdII w A xss) (hm : ∀ j, j < xss.length → (xss.getD j []).length ≤ maxLen) (hx : xss.length ≤ maxLen) (h0 : 0 ≤ left) (hl : left ≤ 1048576) :
    Calls Try.prog 13 #[.agg #[.int .i64 P, .int .i64 C, .slice A xss.length c], .int .i64 left] w fun e w' => e = .returned (.int .i64 (szOf xss left)) ∧ Below w.heap.size w w' := by
  go_enter Try.func13, Try.ntmps13
  have b0 := (Below.refl w.heap.size w).alloc (Nat.le_refl _) (.cells #[.int .i64 P, .int .i64 C, .slice A xss.length c] 24)
  have hs : szOf xss left ≤ 1048576 := by unfold szOf; split <;> omega
  go_wp2_with (fail)
  refine (szII_any _ _ xss _ _ (h.below' b0) hm hx h0 hl).mono ?_; rintro e w' ⟨rfl, rfl⟩
  by_cases hb : (bulk xss : Int) ≤ left
  · have h1 : 0 ≤ szOf xss left := by rw [szOf_yes hb]; omega
    go_wp2_with (fail)
    go_ret
    exact ⟨rfl, b0⟩
  · have h1 := szOf_no (xss := xss) (left := left) (by omega)
    rw [h1]
    go_wp2_with (fail)
    go_ret
    exact ⟨ret_i h1.symm, b0⟩

theorem infoS : (Try.prog.info? 31).map (fun i => (i.zero, i.size, i.bytes)) = some (some (.slice none 0 0), 1, 24) := by kernel_rfl

/-! ### Copies -/
theorem copy_step (xs : List Int) (zs : List Value) (j : Nat) (hj : j < xs.length) (hz : zs.length = xs.length) (h : zs.take j = (xs.take j).map (Value.int .i64)) :
    (zs.set j (.int .i64 (xs.getD j 0))).take (j + 1) = (xs.take (j + 1)).map (Value.int .i64) := by
  rw [List.take_set, List.take_succ_eq_append_getElem (by omega), h, List.take_succ_eq_append_getElem hj, List.map_append]
  rw [List.set_append_right _ _ (by simp; omega)]
  have e : j - (List.map (Value.int .i64) (xs.take j)).length = 0 := by simp; omega
  rw [e]
  simp [hj]
set_option maxHeartbeats 400000 in
theorem toI_any (A : Option Addr) (c : Nat) (xs : List Int) (w : World) (hA : RdI w A xs) (hl : xs.length ≤ 1048576) :
    Calls Try.prog 19 #[.slice A xs.length c] w fun e w' => e = .returned (.slice (some ⟨w.heap.size, 0, none⟩) xs.length xs.length) ∧ OwnI w' w.heap.size (.slice (some ⟨w.heap.size, 0, none⟩) xs.length xs.length) xs ∧ Below w.heap.size w w' := by
  obtain ⟨i0, hi, hz0, hz1, hz2⟩ := info_parts infoI
  go_enter Try.func19, Try.ntmps19
  go_wp2_with (refine wpList_make_full _ rfl (.tmp 6) (.tmp 6) 31 rfl w.heap.size 2 i0 (.int .i64 0) 1 Try.underlying31 hi hz0 hz1 .i64 .i64 (xs.length : Int) (xs.length : Int) xs.length rfl rfl rfl rfl (by rw [hz2]; omega) (by unfold maxLen; omega) (Nat.le_refl _) ?_; intro w1 own1 gr1)
  go_loopw [4] (fun s4 wr => ∃ (j : Nat) (zs : List Value), s4 = .int .i64 j ∧ j ≤ xs.length ∧ wr.ownsRow w.heap.size 2 1 (.slice (some ⟨w.heap.size, 0, none⟩) xs.length xs.length) xs.length zs ∧ zs.take j = (xs.take j).map (Value.int .i64) ∧ Below w.heap.size w wr) (fun s4 _ => xs.length - (intOf s4).toNat)
  case atStart => exact ⟨0, _, rfl, by omega, own1, by simp, (Below.refl _ _).grown gr1 (Nat.le_refl _) (fun k hk => by simp at hk)⟩
  case round =>
    obtain ⟨j, zs, rfl, hj, own, htk, bel⟩ := hrel
    clear own1 gr1
    have hz : zs.length = xs.length := by have := own.1; simpa using this
    by_cases hlt : j < xs.length
    · obtain ⟨g, o, rfl, hg, hc⟩ := (hA.below' bel) j hlt
      obtain ⟨ov, hov⟩ : ∃ ov, wr.cell? ⟨w.heap.size, j, none⟩ = some ov := ⟨_, by rw [own.cellAt j (by omega)]; exact List.getElem?_eq_getElem (by omega)⟩
      have hfz := own.frozenAt j
      obtain ⟨st1, st2⟩ := own.stored j (.int .i64 (xs.getD j 0))
      have HCS := Lib.hid (copy_step xs zs j hlt hz htk)
      have HST := Lib.hid st1
      have bel2 := bel.grown st2 bel.size (fun k hk => by simp at hk; omega)
      have i0 : (0 : Int) ≤ (j : Int) := by omega
      have i1 : (j : Int) < (xs.length : Int) := by omega
      clear st1 st2 htk hz own hA
      generalize xs.getD j 0 = x at *
      go_wp2_with (fail)
      exact ⟨⟨j + 1, _, by go_num, by omega, HST.out, HCS.out, bel2⟩, by simp [intOf]; omega⟩
    · have hge : ¬ ((j : Int) < (xs.length : Int)) := by omega
      have HZ : Hid (zs = xs.map (Value.int .i64)) := Lib.hid (by
        obtain rfl : j = xs.length := by omega
        rw [List.take_of_length_le (by omega), List.take_length] at htk
        exact htk)
      clear htk hz
      go_wp2_with (fail)
      go_ret
      exact ⟨rfl, by unfold OwnI; rw [← HZ.out]; exact own, bel⟩

/-! ### Lists of lists in memory of a call's own -/
def nilS : Value := .slice none 0 0
def OwnII (w : World) (base : Nat) (v : Value) (xss : List (List Int)) : Prop :=
  ∃ vs : List Value, w.ownsRow base 31 1 v xss.length vs ∧ (∀ j, j < xss.length → OwnI w base (vs.getD j nilS) (xss.getD j [])) ∧ ∀ i j, i < j → j < xss.length → ApartV (vs.getD i nilS) (vs.getD j nilS)
theorem ownsRow_base {w : World} {b b' : Nat} {e : TypeId} {size n : Nat} {v : Value} {xs : List Value} (h : w.ownsRow b e size v n xs) (hb : b' ≤ b) : w.ownsRow b' e size v n xs := by
  obtain ⟨h1, h2⟩ := h
  refine ⟨h1, ?_⟩
  rcases h2 with h2 | ⟨g, cap, cur, hv, hg, r⟩
  · exact .inl h2
  · exact .inr ⟨g, cap, cur, hv, by omega, r⟩
/-- A row of numbers and a row of slices never share a block. -/
theorem rows_apart {w : World} {b b' n m : Nat} {v v' : Value} {xs ys : List Value} (h : w.ownsRow b 2 1 v n xs) (h' : w.ownsRow b' 31 1 v' m ys) : ApartV v v' := by
  rcases h.2 with ⟨rfl, _⟩ | ⟨g, cap, cur, rfl, _, hg, _⟩
  · exact .inl rfl
  · rcases h'.2 with ⟨rfl, _⟩ | ⟨g', cap', cur', rfl, _, hg', _⟩
    · exact .inr (by simp [Value.ownBlock])
    · refine .inr ?_
      simp only [Value.ownBlock]
      intro e
      have : g = g' := by simpa using e
      subst this
      rw [hg] at hg'
      simp at hg'
set_option maxHeartbeats 1000000 in
theorem toII_any (A : Option Addr) (c : Nat) (xss : List (List Int)) (w : World) (hA : RdII w A xss) (hl : bulk xss ≤ 1048576) :
    Calls Try.prog 46 #[.slice A xss.length c] w fun e w' => e = .returned (.slice (some ⟨w.heap.size, 0, none⟩) xss.length xss.length) ∧ OwnII w' w.heap.size (.slice (some ⟨w.heap.size, 0, none⟩) xss.length xss.length) xss ∧ Below w.heap.size w w' := by
  obtain ⟨i0, hi, hz0, hz1, hz2⟩ := info_parts infoS
  have hl1 : xss.length ≤ 1048576 := by unfold bulk at hl; omega
  have hl2 : ∀ j, j < xss.length → (xss.getD j []).length ≤ 1048576 := fun j hj => by
    have h1 := rowsum_take xss j hj
    have h2 := rowsum_le xss (j + 1)
    unfold bulk at hl
    omega
  go_enter Try.func46, Try.ntmps46
  go_wp2_with (refine wpList_make_full _ rfl (.tmp 6) (.tmp 6) 22 rfl w.heap.size 31 i0 (.slice none 0 0) 1 Try.underlying22 hi hz0 hz1 .i64 .i64 (xss.length : Int) (xss.length : Int) xss.length rfl rfl rfl rfl (by rw [hz2]; omega) (by unfold maxLen; omega) (Nat.le_refl _) ?_; intro w1 own1 gr1)
  go_loopw [4] (fun s4 wr => ∃ (j : Nat) (vs : List Value), s4 = .int .i64 j ∧ j ≤ xss.length ∧ wr.ownsRow w.heap.size 31 1 (.slice (some ⟨w.heap.size, 0, none⟩) xss.length xss.length) xss.length vs ∧ (∀ i, i < j → OwnI wr w.heap.size (vs.getD i nilS) (xss.getD i [])) ∧ (∀ i k, i < k → k < j → ApartV (vs.getD i nilS) (vs.getD k nilS)) ∧ Below w.heap.size w wr) (fun s4 _ => xss.length - (intOf s4).toNat)
  case atStart => exact ⟨0, _, rfl, by omega, own1, fun i hi => by omega, fun i k _ hk => by omega, (Below.refl _ _).grown gr1 (Nat.le_refl _) (fun k hk => by simp at hk)⟩
  case round =>
    obtain ⟨j, vs, rfl, hj, own, rows, apart, bel⟩ := hrel
    clear own1 gr1
    have hvl : vs.length = xss.length := by have := own.1; simpa using this
    by_cases hlt : j < xss.length
    · obtain ⟨g, o, B, cc, rfl, hc, hrd⟩ := (hA.below' bel).row hlt
      have hlen := hl2 j hlt
      have i0 : (0 : Int) ≤ (j : Int) := by omega
      have i1 : (j : Int) < (xss.length : Int) := by omega
      have HROWS := Lib.hid rows
      have HAP := Lib.hid apart
      have HRD := Lib.hid hrd
      have hz := bel.size
      clear rows apart hrd hl2 hA
      have hT := fun wx h => toI_any B cc (xss.getD j []) wx h hlen
      generalize hx : xss.getD j [] = xs at *
      have HX := Lib.hid hx
      clear hx
      go_wp2_with (fail)
      refine (hT _ HRD.out).mono ?_; rintro e w2 ⟨rfl, ow2, b2⟩
      have own2 := World.ownsRow.kept (row := none) own ⟨b2.os, b2.tape, b2.output, b2.size, fun k hk _ => b2.block k hk⟩ (.inr (by simp [Value.ownBlock]))
      obtain ⟨ov, hov⟩ : ∃ ov, w2.cell? ⟨w.heap.size, j, none⟩ = some ov := ⟨_, by rw [own2.cellAt j (by omega)]; exact List.getElem?_eq_getElem (by omega)⟩
      have hfz := own2.frozenAt j
      obtain ⟨st1, st2⟩ := own2.stored j (.slice (some ⟨wr.heap.size, 0, none⟩) xs.length xs.length)
      have bel2 := (bel.trans (b2.mono hz)).grown st2 (by have := b2.size; omega) (fun k hk => by simp at hk; omega)
      have HR2 : Hid (∀ i, i < j + 1 → OwnI (w2.setCell ⟨w.heap.size, j, none⟩ (.slice (some ⟨wr.heap.size, 0, none⟩) xs.length xs.length)) w.heap.size ((vs.set j (.slice (some ⟨wr.heap.size, 0, none⟩) xs.length xs.length)).getD i nilS) (xss.getD i [])) := Lib.hid (fun i hi => by
        by_cases hij : i = j
        · subst hij
          have e : (vs.set i (.slice (some ⟨wr.heap.size, 0, none⟩) xs.length xs.length)).getD i nilS = .slice (some ⟨wr.heap.size, 0, none⟩) xs.length xs.length := by
            rw [List.getD_eq_getElem?_getD, List.getElem?_set_self (by omega)]; rfl
          rw [e, HX.out]
          exact OwnI.kept (ownsRow_base ow2 hz) st2 (rows_apart ow2 own2)
        · have e : (vs.set j (.slice (some ⟨wr.heap.size, 0, none⟩) xs.length xs.length)).getD i nilS = vs.getD i nilS := by
            rw [List.getD_eq_getElem?_getD, List.getElem?_set_ne (by omega), ← List.getD_eq_getElem?_getD]
          rw [e]
          have h1 := (HROWS.out i (by omega)).below b2
          exact OwnI.kept h1 st2 (rows_apart h1 own2))
      have HA2 : Hid (∀ i k, i < k → k < j + 1 → ApartV ((vs.set j (.slice (some ⟨wr.heap.size, 0, none⟩) xs.length xs.length)).getD i nilS) ((vs.set j (.slice (some ⟨wr.heap.size, 0, none⟩) xs.length xs.length)).getD k nilS)) := Lib.hid (fun i k hik hk => by
        have e : (vs.set j (.slice (some ⟨wr.heap.size, 0, none⟩) xs.length xs.length)).getD i nilS = vs.getD i nilS := by
          rw [List.getD_eq_getElem?_getD, List.getElem?_set_ne (by omega), ← List.getD_eq_getElem?_getD]
        rw [e]
        by_cases hkj : k = j
        · subst hkj
          have e2 : (vs.set k (.slice (some ⟨wr.heap.size, 0, none⟩) xs.length xs.length)).getD k nilS = .slice (some ⟨wr.heap.size, 0, none⟩) xs.length xs.length := by
            rw [List.getD_eq_getElem?_getD, List.getElem?_set_self (by omega)]; rfl
          rw [e2]
          exact (OwnI.apart ow2 (fun q hq => (World.ownsRow.lt (HROWS.out i (by omega)) q hq).2)).symm
        · have e2 : (vs.set j (.slice (some ⟨wr.heap.size, 0, none⟩) xs.length xs.length)).getD k nilS = vs.getD k nilS := by
            rw [List.getD_eq_getElem?_getD, List.getElem?_set_ne (by omega), ← List.getD_eq_getElem?_getD]
          rw [e2]
          exact HAP.out i k hik (by omega))
      have HST := Lib.hid st1
      have hzz : w.heap.size < w2.heap.size := by
        have h1 := b2.size
        have h2 : w.heap.size < wr.heap.size := (World.ownsRow.lt own _ rfl).2
        omega
      clear st1 st2 ow2 own own2 HROWS HAP hT HRD hc
      go_wp2_with (fail)
      exact ⟨⟨j + 1, _, by go_num, by omega, HST.out, HR2.out, HA2.out, bel2⟩, by simp [intOf]; omega⟩
    · have hge : ¬ ((j : Int) < (xss.length : Int)) := by omega
      obtain rfl : j = xss.length := by omega
      have HO : Hid (OwnII wr w.heap.size (.slice (some ⟨w.heap.size, 0, none⟩) xss.length xss.length) xss) := Lib.hid ⟨vs, own, rows, apart⟩
      clear rows apart own
      go_wp2_with (fail)
      go_ret
      exact ⟨rfl, HO.out, bel⟩

theorem OwnII.below {w w' : World} {base : Nat} {v : Value} {xss : List (List Int)} (h : OwnII w base v xss) (hb : Below w.heap.size w w') : OwnII w' base v xss := by
  obtain ⟨vs, h1, h2, h3⟩ := h
  refine ⟨vs, World.ownsRow.kept (row := none) h1 ⟨hb.os, hb.tape, hb.output, hb.size, fun k hk _ => hb.block k hk⟩ ?_, fun j hj => (h2 j hj).below hb, h3⟩
  cases hv : v.ownBlock with
  | none => exact .inl rfl
  | some k => exact .inr (by simp)
theorem OwnII.base_ {w : World} {base b : Nat} {v : Value} {xss : List (List Int)} (h : OwnII w base v xss) (hb : b ≤ base) : OwnII w b v xss := by
  obtain ⟨vs, h1, h2, h3⟩ := h
  exact ⟨vs, ownsRow_base h1 hb, fun j hj => ownsRow_base (h2 j hj) hb, h3⟩
/-- What is owned reads as its lists. -/
theorem OwnII.reads {w : World} {base n cap : Nat} {A : Option Addr} {xss : List (List Int)} (h : OwnII w base (.slice A n cap) xss) : RdII w A xss := by
  obtain ⟨vs, h1, h2, h3⟩ := h
  intro j hj
  have hvl : vs.length = xss.length := by have := h1.1; simpa using this
  rcases h1.2 with ⟨hv, h0⟩ | ⟨g, c, cur, hv, hb, hg, r⟩
  · omega
  · simp only [Value.slice.injEq] at hv
    obtain ⟨rfl, rfl, rfl⟩ := hv
    have hc := h1.cellAt j (by omega)
    obtain ⟨B, cc, hB⟩ := (h2 j hj).form
    refine ⟨g, 0, B, cc, rfl, (h1.lt g rfl).2, ?_, ?_⟩
    · rw [Nat.zero_add, hc, ← hB, List.getD_eq_getElem?_getD, List.getElem?_eq_getElem (by omega)]
      rfl
    · have h4 := h2 j hj
      rw [hB] at h4
      exact h4.reads
theorem OwnII.low {w : World} {base : Nat} {v : Value} {xss : List (List Int)} (h : OwnII w base v xss) {p : Addr} (hp : p.block < base) (u : Value) : OwnII (w.setCell p u) base v xss := by
  obtain ⟨vs, h1, h2, h3⟩ := h
  exact ⟨vs, ownsRow_setCell_below h1 hp u, fun j hj => ownsRow_setCell_below (h2 j hj) hp u, h3⟩
theorem bcellM {W w1 : World} (hb : Below W.heap.size W w1) : (∀ b o, b < W.heap.size → w1.cell? ⟨b, o, none⟩ = W.cell? ⟨b, o, none⟩) ∧ (∀ b o, b < W.heap.size → w1.frozen? ⟨b, o, none⟩ = W.frozen? ⟨b, o, none⟩) :=
  ⟨fun b o h => hb.cell (p := ⟨b, o, none⟩) h, fun b o h => hb.frozen (p := ⟨b, o, none⟩) h⟩
set_option maxHeartbeats 400000 in
theorem toM_any (P C : Int) (A : Option Addr) (c : Nat) (xss : List (List Int)) (w : World) (hA : RdII w A xss) (hl : bulk xss ≤ 1048576) :
    Calls Try.prog 15 #[.agg #[.int .i64 P, .int .i64 C, .slice A xss.length c]] w fun e w' => ∃ g, e = .returned (.agg #[.int .i64 P, .int .i64 C, .slice (some ⟨g, 0, none⟩) xss.length xss.length]) ∧ OwnII w' w.heap.size (.slice (some ⟨g, 0, none⟩) xss.length xss.length) xss ∧ Below w.heap.size w w' := by
  have b0 : Below w.heap.size w (((w.alloc (.cells #[.int .i64 P, .int .i64 C, .slice A xss.length c] 24)).alloc (.cells #[.int .i64 0, .int .i64 0, .slice none 0 0] 27)).alloc (.cells #[.int .i64 P, .int .i64 C, .slice none 0 0] 27)) := by go_grown
  go_enter Try.func15, Try.ntmps15
  go_wp2_with (fail)
  refine (toII_any _ _ xss _ (hA.below' b0) hl).mono ?_
  rintro e w1 ⟨rfl, ow, hb⟩
  obtain ⟨hc, hf⟩ := bcellM hb
  have hz : w.heap.size + 1 + 1 < w1.heap.size := by have := hb.size; simp at this; omega
  have hz1 : w.heap.size + 1 < w1.heap.size := by omega
  have b1 := b0.trans (hb.mono (by go_size))
  clear hb b0 hA
  go_wp2_with (fail)
  refine bodyPost_ret (v := .agg #[.int .i64 P, .int .i64 C, .slice (some ⟨w.heap.size + 1 + 1 + 1, 0, none⟩) xss.length xss.length]) (by simp [results, Try.results15, go_sem, hc, hz, hz1]) rfl ⟨_, rfl, ?_, ?_⟩
  · simp only [World.size_alloc] at ow
    exact OwnII.base_ ((((ow.low (by simp) _).low (by simp) _).low (by simp) _).low (by simp) _) (by omega)
  · exact (((b1.setCell (by simp; omega) _).setCell (by simp) _).setCell (by simp) _).setCell (by simp) _
set_option maxHeartbeats 400000 in
theorem eqII_yes (A B : Option Addr) (c d : Nat) (xss : List (List Int)) (w : World) (hA : RdII w A xss) (hB : RdII w B xss) (hl : bulk xss ≤ 1048576) :
    Calls Try.prog 52 #[.slice A xss.length c, .slice B xss.length d] w fun e w' => e = .returned (.bool true) ∧ Below w.heap.size w w' := by
  have hl1 : xss.length ≤ 1048576 := by unfold bulk at hl; omega
  have hl2 : ∀ j, j < xss.length → (xss.getD j []).length ≤ 1000000000 := fun j hj => by
    have h1 := rowsum_take xss j hj
    have h2 := rowsum_le xss (j + 1)
    unfold bulk at hl
    omega
  go_enter Try.func52, Try.ntmps52
  go_wp2
  go_loopw [5] (fun s5 wr => ∃ k : Nat, k ≤ xss.length ∧ s5 = .int .i64 k ∧ Below w.heap.size w wr) (fun s5 _ => xss.length - (intOf s5).toNat)
  case atStart => exact ⟨0, by omega, rfl, Below.refl _ _⟩
  case round =>
    obtain ⟨k, hk, rfl, hbel⟩ := hrel
    by_cases hlt : k < xss.length
    · have hA' := hA.below' hbel
      have hB' := hB.below' hbel
      obtain ⟨g, o, D, cd, rfl, hc, hr⟩ := hA'.row hlt
      obtain ⟨g', o', D', cd', rfl, hc', hr'⟩ := hB'.row hlt
      have hlen := hl2 k hlt
      have i0 : (0 : Int) ≤ (k : Int) := by omega
      have i1 : (k : Int) < (xss.length : Int) := by omega
      have HT : Hid (∀ wx : World, RdI wx D (xss.getD k []) → RdI wx D' (xss.getD k []) → Calls Try.prog 21 #[.slice D (xss.getD k []).length cd, .slice D' (xss.getD k []).length cd'] wx fun e w' => e = .returned (.bool true) ∧ Below wx.heap.size wx w') := Lib.hid fun wx h1 h2 => eqI_yes D D' cd cd' _ wx h1 h2 hlen
      have HR := Lib.hid hr
      have HR' := Lib.hid hr'
      have hg := World.block_lt_of_cell? wr _ hc
      have hg' := World.block_lt_of_cell? wr _ hc'
      simp only at hg hg'
      clear hr hr' hA hB hA' hB' hl2
      generalize hx : xss.getD k [] = xs at *
      clear hx
      generalize xs.length = n at *
      go_wp2_with (fail)
      go_region_held3 (fun wx => wx.cell? ⟨g, o + k, none⟩ = some (.slice D n cd) ∧ wx.cell? ⟨g', o' + k, none⟩ = some (.slice D' n cd')) (first | go_keep | assumption) (first | (go_at_call 21; refine (HT.out _ (HR.out.below' (Below.refl _ _).drew) (HR'.out.below' (Below.refl _ _).drew)).mono ?_; rintro e wm ⟨rfl, hbm⟩; have SM : wm.cell? ⟨g, o + k, none⟩ = some (.slice D n cd) ∧ wm.cell? ⟨g', o' + k, none⟩ = some (.slice D' n cd') := ⟨(by rw [hbm.cell hg]; exact hc), (by rw [hbm.cell hg']; exact hc')⟩))
      all_goals
        go_wp2_with (fail)
        exact ⟨⟨k + 1, by omega, by go_num, hbel.drew.trans (hbm.mono (by have := hbel.size; go_size))⟩, by simp [intOf]; omega⟩
    · have hge : ¬ ((k : Int) < (xss.length : Int)) := by omega
      go_wp2_with (fail)
      go_ret
      exact ⟨rfl, hbel⟩

set_option maxHeartbeats 400000 in
theorem eqM_yes (P C : Int) (A B : Option Addr) (c d : Nat) (xss : List (List Int)) (w : World) (hA : RdII w A xss) (hB : RdII w B xss) (hl : bulk xss ≤ 1048576) :
    Calls Try.prog 17 #[.agg #[.int .i64 P, .int .i64 C, .slice A xss.length c], .agg #[.int .i64 P, .int .i64 C, .slice B xss.length d]] w fun e w' => e = .returned (.bool true) ∧ Below w.heap.size w w' := by
  have b0 : Below w.heap.size w ((w.alloc (.cells #[.int .i64 P, .int .i64 C, .slice A xss.length c] 27)).alloc (.cells #[.int .i64 P, .int .i64 C, .slice B xss.length d] 27)) := by go_grown
  go_enter Try.func17, Try.ntmps17
  go_wp2_with (fail)
  refine (eqII_yes _ _ _ _ xss _ (hA.below' b0) (hB.below' b0) hl).mono ?_
  rintro e w1 ⟨rfl, hb⟩
  go_wp2_with (fail)
  go_ret
  exact ⟨rfl, b0.trans (hb.mono (by go_size))⟩
end Go.Proofs.Ytggkoihlmijacaa
