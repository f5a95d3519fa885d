/- 'FnExactGroupExponent': for every input the call of the law returns true, and what its arguments hold reads as it did. No conditions. -/
import Derived.Test.YteappjgdcbploaaKB
import Derived.Test.YteappjgdcbploaaShPres
import Derived.Test.YteappjgdcbploaaNumF
import Derived.Test.YteappjgdcbploaaQA
import Derived.Test.YteappjgdcbploaaRows
import Derived.Deep.Slices
import Derived.Maps.AppendAt
import Derived.Deep.DeepCutAuto
import Derived.Deep.RegionHeld3
import Derived.IntWalk
import Derived.Handy
import Derived.WalkKit
import Derived.ProofKit
import Derived.OpenShut
import Derived.ShutString
import Derived.ChangeOld
import Derived.Below
namespace Go.Proofs.Yteappjgdcbploaa.fnExactGroupExponent
open Go.ChangeShapes Go.WideShapes Go.ChangeAt Go.RowKit
open Go.ChangeMaps (open_string shut_string)
set_option maxRecDepth 100000 in
theorem joined : joinedFacts Try.pinned.checked.prog 13 Try.f13 Rows.fnExactGroupExponentSpec Rows.fnExactGroupExponentRow = true := by kernel_rfl

end Go.Proofs.Yteappjgdcbploaa.fnExactGroupExponent
namespace Go.Proofs.Yteappjgdcbploaa
open Go.RowKit Go.ChangeShapes Go.WideShapes Go.ChangeAt
set_option linter.unusedVariables false
set_option linter.unusedSimpArgs false

set_option maxRecDepth 100000 in
/-- What a slice of slices of int64 that came in says. -/
theorem open_lists {H : Type} {enc : TypeId × Value → H} {W : World} {base : Nat} {v : Value} {d : DataW H} {p : List MemPlace}
    (hv : Value.okWide Try.prog W .any base 23 v) (h : DataW.Trod enc Try.prog W 0 (fun _ => true) true 23 v d p) :
    ∃ (A : Option Addr) (cap : Nat) (xss : List (List Int)), v = .slice A xss.length cap ∧ RdII W A xss ∧ (∀ j, j < xss.length → (xss.getD j []).length ≤ maxLen) ∧ xss.length ≤ maxLen := by
  obtain ⟨a0, len0, cap0, rfl⟩ := okWide_slice Try.underlying23 hv
  obtain ⟨fuel, hf⟩ := h
  rcases Go.Deep.open_int_rows Try.underlying23 Try.underlying22 Try.underlying2 (by kernel_rfl) (by kernel_rfl) hf with ⟨hc, _⟩ | ⟨a, len, cap, A, L, C', Z, hc, _, hl, hm, _, hr⟩
  · simp [Value.cells] at hc
    obtain ⟨rfl, rfl, rfl⟩ := hc
    exact ⟨none, 0, [], rfl, fun j hj => by simp at hj, fun j hj => by simp at hj, by simp⟩
  · simp [Value.cells] at hc
    obtain ⟨rfl, rfl, rfl⟩ := hc
    refine ⟨some a, cap0, (List.range len0).map fun r => (Z r).take (L r), by simp, fun j hj => ?_, fun j hj => ?_, by simp; omega⟩
    · have hj' : j < len0 := by simpa using hj
      obtain ⟨h1, h2, h3, h4, h5, h6, h7⟩ := hr j (by omega)
      obtain ⟨b, o, rfl⟩ := plain_of (hr 0 (by omega)).1
      have hcell : W.cell? ⟨b, o + j, none⟩ = some (.slice (A j) (L j) (C' j)) := by rw [← Go.WideShapes.add_plain]; exact h1
      have hg : ((List.range len0).map fun r => (Z r).take (L r)).getD j [] = (Z j).take (L j) := by simp [hj']
      rw [hg]
      have hlen : ((Z j).take (L j)).length = L j := by simp; omega
      rw [hlen]
      refine ⟨b, o, A j, C' j, rfl, World.block_lt_of_cell? W _ hcell, hcell, fun i hi => ?_⟩
      rw [hlen] at hi
      cases hA : A j with
      | none => have := h6 hA; omega
      | some a' =>
        obtain ⟨_, hcc⟩ := h7 a' hA
        have hci := hcc i (by omega)
        obtain ⟨b', o', rfl⟩ := plain_of (hcc 0 (by omega))
        have hcell' : W.cell? ⟨b', o' + i, none⟩ = some (.int .i64 ((Z j).getD i 0)) := by rw [← Go.WideShapes.add_plain]; exact hci
        refine ⟨b', o', rfl, World.block_lt_of_cell? W _ hcell', ?_⟩
        rw [hcell']
        simp [List.getElem?_take, hi]
    · have hj' : j < len0 := by simpa using hj
      obtain ⟨h1, h2, h3, h4, h5, h6, h7⟩ := hr j (by omega)
      have hg : ((List.range len0).map fun r => (Z r).take (L r)).getD j [] = (Z j).take (L j) := by simp [hj']
      rw [hg]
      simp; omega
theorem rdLists_of {w : World} {A : Option Addr} {c : Nat} {xss : List (List Int)} (h : RdII w A xss ∧ (∀ j, j < xss.length → (xss.getD j []).length ≤ maxLen) ∧ xss.length ≤ maxLen) : spII.rd w (.slice A xss.length c) xss := by
  obtain ⟨h1, h2, h3⟩ := h
  refine ⟨A, c, rfl, h3, fun j hj => ?_⟩
  obtain ⟨g, o, B, cB, e, hg, hc, hr⟩ := h1 j hj
  exact ⟨g, o, _, e, hg, hc, B, cB, rfl, h2 j hj, hr⟩
end Go.Proofs.Yteappjgdcbploaa
namespace Go.Proofs.Yteappjgdcbploaa
open Go.RowKit Go.ChangeShapes Go.WideShapes Go.ChangeAt
set_option linter.unusedVariables false
set_option linter.unusedSimpArgs false

section
variable {H : Type} {enc : TypeId × Value → H} {W : World}
theorem choose_to {α : Type} {p : Nat → α → Prop} (d : α) {n : Nat} (h : ∀ i, i < n → ∃ x, p i x) : ∃ f : Nat → α, ∀ i, i < n → p i (f i) := by
  classical
  refine ⟨fun i => if hi : i < n then (h i hi).choose else d, fun i hi => ?_⟩
  simp only [hi, dif_pos]
  exact (h i hi).choose_spec
theorem trod_ints {fuel : Nat} {u : Value} {x : DataW H × List MemPlace} (h : DataW.trod enc Try.prog W 0 (fun _ => true) true fuel 22 [u] = some x) : ∃ xs, spI.rd W u xs := by
  rcases open_ints Try.underlying22 Try.underlying2 (by kernel_rfl) h with ⟨hcs, _⟩ | ⟨x, l, c, zs, hcs, _, hl, hm, hz, _, hcell, hwz⟩
  · simp at hcs
    subst hcs
    exact ⟨[], none, 0, rfl, by simp, fun j hj => by simp at hj⟩
  · simp at hcs
    subst hcs
    have hz' : zs.length = c := by simpa using hz
    have hlen : (zs.take l).length = l := by simp; omega
    refine ⟨zs.take l, some x, c, by rw [hlen], by rw [hlen]; omega, fun j hj => ?_⟩
    rw [hlen] at hj
    obtain ⟨b, o, rfl, hc⟩ := ints_at hcell (by omega)
    have h1 := hc j (by omega)
    refine ⟨b, o, rfl, World.block_lt_of_cell? W _ h1, ?_⟩
    rw [h1]
    simp [List.getElem?_take, hj]
theorem trod_list {α : Type} {s : Sp α} {nul : α} {E t e : TypeId} (ht : Try.prog.underlying t = some (.slice e)) (hc : Try.prog.cellsOf e = 1)
    (each : ∀ n u y, DataW.trod enc Try.prog W 0 (fun _ => true) true n e [u] = some y → ∃ x, s.rd W u x) {fuel : Nat} {u : Value} {x : DataW H × List MemPlace}
    (h : DataW.trod enc Try.prog W 0 (fun _ => true) true fuel t [u] = some x) : ∃ xs, (spL E s nul).rd W u xs := by
  rcases Go.Deep.open_slice1 ht hc h with ⟨hcs, _⟩ | ⟨a, len, cap, m, n, V, D, Pl, hcs, _, hl, hm, hmm, _, hx⟩
  · simp at hcs
    subst hcs
    exact ⟨[], none, 0, rfl, by simp, fun j hj => by simp at hj⟩
  · simp at hcs
    subst hcs
    simp only [if_true] at hmm
    have hmm' := hmm.symm
    subst hmm'
    obtain ⟨X, hX⟩ := choose_to (p := fun r y => s.rd W (V r) y) nul (fun r (hr : r < cap) => each _ _ _ (hx r hr).2)
    refine ⟨(List.range len).map X, some a, cap, by simp, by simp; omega, fun j hj => ?_⟩
    have hj' : j < len := by simpa using hj
    obtain ⟨b, o, rfl⟩ := plain_of (hx 0 (by omega)).1
    have hcell : W.cell? ⟨b, o + j, none⟩ = some (V j) := by rw [← Go.WideShapes.add_plain]; exact (hx j (by omega)).1
    refine ⟨b, o, V j, rfl, World.block_lt_of_cell? W _ hcell, hcell, ?_⟩
    have hg : ((List.range len).map X).getD j nul = X j := by simp [hj']
    rw [hg]
    exact hX j (by omega)
set_option maxRecDepth 100000 in
/-- What a presentation by value says. -/
theorem open_pres {base : Nat} {v : Value} {d : DataW H} {p : List MemPlace}
    (hv : Value.okWide Try.prog W .any base 26 v) (h : DataW.Trod enc Try.prog W 0 (fun _ => true) true 26 v d p) : ∃ x : Pres, spPres.rd W v x := by
  obtain ⟨c0, c1, c2, y0, y1, y2, m, rfl, _, _, hy0, hy1, hy2⟩ := Go.Joins.open_agg3 Try.underlying26 (by kernel_rfl) (by kernel_rfl) hv h
  obtain ⟨O, hO⟩ := trod_ints hy0
  obtain ⟨R, hR⟩ := trod_list (s := spI) (nul := []) (E := 22) Try.underlying23 (by kernel_rfl) (fun n u y hh => trod_ints hh) hy1
  obtain ⟨J, hJ⟩ := trod_list (s := spII) (nul := []) (E := 23) Try.underlying24 (by kernel_rfl) (fun n u y hh => trod_list (s := spI) (nul := []) (E := 22) Try.underlying23 (by kernel_rfl) (fun n u y hh => trod_ints hh) hh) hy2
  exact ⟨⟨O, R, J⟩, _, _, _, rfl, hO, hR, hJ⟩
end
end Go.Proofs.Yteappjgdcbploaa
namespace Go.Proofs.Yteappjgdcbploaa
open Go.RowKit
set_option linter.unusedVariables false
set_option linter.unusedSimpArgs false

/-- Behind an append to each of two rows. -/
theorem two_rows {w wr w1 w2 : World} {v1 v2 v1' v2' : Value} {ps es : List Int} {x y : Int} {t t' : TypeId} (own1 : OwnI wr w.heap.size v1 ps) (own2 : OwnI wr w.heap.size v2 es) (hap : ApartV v1 v2) (hbel : Below w.heap.size w wr) (hz : w.heap.size ≤ wr.heap.size)
    (hown1 : w1.ownsRow w.heap.size 2 1 v1' (ps.length + 1) (ps.map (Value.int .i64) ++ [.int .i64 x])) (hg1 : (wr.alloc (.cells #[.int .i64 x] t)).grownBy w1 v1.ownBlock) (ha1 : v1'.ownBlock = v1.ownBlock ∨ v1'.ownBlock = some (wr.alloc (.cells #[.int .i64 x] t)).heap.size)
    (hown2 : w2.ownsRow w.heap.size 2 1 v2' (es.length + 1) (es.map (Value.int .i64) ++ [.int .i64 y])) (hg2 : (w1.alloc (.cells #[.int .i64 y] t')).grownBy w2 v2.ownBlock) (ha2 : v2'.ownBlock = v2.ownBlock ∨ v2'.ownBlock = some (w1.alloc (.cells #[.int .i64 y] t')).heap.size) :
    OwnI w2 w.heap.size v1' (ps ++ [x]) ∧ OwnI w2 w.heap.size v2' (es ++ [y]) ∧ ApartV v1' v2' ∧ Below w.heap.size w w2 := by
  have lt1 := World.ownsRow.lt own1
  have lt2 := World.ownsRow.lt own2
  have lt1' := World.ownsRow.lt hown1
  have z1 := hg1.size
  simp only [World.size_alloc] at z1 ha1 ha2
  -- the first row's new block is not the second row's
  have n12 : v1'.ownBlock = none ∨ v1'.ownBlock ≠ v2.ownBlock := by
    rcases ha1 with h | h
    · rw [h]; exact hap
    · refine .inr ?_
      rw [h]
      intro e
      have := (lt2 _ e.symm).2
      omega
  refine ⟨?_, OwnI.snoc hown2, ?_, ?_⟩
  · exact ((OwnI.snoc hown1).alloc _).kept hg2 n12
  · rcases ha2 with h | h
    · unfold ApartV; rw [h]; exact n12
    · refine .inr ?_
      rw [h]
      intro e
      have := (lt1' _ e).2
      omega
  · exact ((((hbel.alloc hz _).grown hg1 (by go_size) (fun k hk => (lt1 k hk).1)).alloc (by go_size) _).grown hg2 (by go_size) (fun k hk => (lt2 k hk).1))

set_option maxHeartbeats 1000000 in
theorem factorize_ok (n : Int) (w : World) (hn1 : 1 ≤ n) (hn2 : n ≤ 1000000) :
    Calls Try.prog 115 #[.int .i64 n] w fun e w' => ∃ v1 v2, e = .returned (.tuple #[v1, v2, .int .i64 0]) ∧ OwnI w' w.heap.size v1 (Num.facP 2 n) ∧ OwnI w' w.heap.size v2 (Num.facE 2 n) ∧ ApartV v1 v2 ∧ Below w.heap.size w w' := by
  obtain ⟨i0, hi, hz0, hz1, hz2⟩ := info_parts infoI
  go_enter Try.func115, Try.ntmps115
  go_wp2_with (first | (go_at_call 139; refine (isNumber_yes _ _ hn1 hn2).mono ?_; rintro e w' ⟨rfl, rfl⟩))
  go_loopw [0, 5, 6, 7] (fun s0 s5 s6 s7 wr => ∃ (c d : Int) (ps es : List Int), s0 = .int .i64 c ∧ s7 = .int .i64 d ∧ Num.FacInv n d c ps es ∧ OwnI wr w.heap.size s5 ps ∧ OwnI wr w.heap.size s6 es ∧ ApartV s5 s6 ∧ Below w.heap.size w wr) (fun s0 _ _ s7 _ => (intOf s0).toNat * 2000000 + (1000001 - intOf s7).toNat)
  case atStart => exact ⟨n, 2, [], [], rfl, rfl, Num.facInv_start hn1, World.ownsRow_nil _ _ _ _, World.ownsRow_nil _ _ _ _, .inl rfl, Below.refl _ _⟩
  case round =>
    obtain ⟨c, d, ps, es, rfl, rfl, hinv, own1, own2, hap, hbel⟩ := hrel
    obtain ⟨d1, d2, c1, c2, l1, l2⟩ := Num.facInv_bd hinv
    obtain ⟨q1, q2⟩ := Num.sq_fits d1 d2
    have l3 : es.length ≤ n.toNat := by omega
    have Z := hbel.size
    by_cases hc : c = 1
    · subst hc
      obtain ⟨e1, e2⟩ := Num.facInv_end hinv
      have E1 := Lib.hid e1
      have E2 := Lib.hid e2
      clear e1 e2 hinv l2
      go_wp2
      go_ret3
      exact ⟨_, _, rfl, by rw [← E1.out]; exact own1, by rw [← E2.out]; exact own2, hap, hbel⟩
    · have hc' : 1 < c := by omega
      clear l2
      by_cases hd : d * d ≤ c
      · have hb := Num.sq_big d1 hd
        have hd' : ¬ (c < d * d) := by omega
        have hv := Num.vr_bd (p := d) d1 c1
        by_cases hm : c % d = 0
        · have hs := Num.facInv_div hn2 hinv hd hm
          have hp := Num.ve_pos d1 c1 hm
          clear hm hinv
          go_wp2_with (first | (go_at_call 140; refine (removePrime_any _ _ _ d1 (by omega) c1 (by omega)).mono ?_; rintro e w' ⟨rfl, rfl⟩) | (at_builtin; refine wpList_append_own_at _ rfl (.tmp 31) (.tmp 33) 22 rfl w.heap.size 2 i0 (.int .i64 0) 1 8 Try.underlying22 hi hz0 hz1 hz2 rfl (by decide) u5 _ _ rfl (own1.alloc _) ⟨_, 0, none⟩ 1 1 [.int .i64 d] rfl rfl (cell_one_new _ _ _) (by simp [Value.oneCell']) (by unfold maxLen; omega) (by omega) (by go_size) ?_; intro v1 w1 hown1 hgrow1 _ hat1; have hk2 := (own2.alloc (Obj.cells #[.int .i64 d] 2)).kept hgrow1 hap.symm; have Z1 := hgrow1.size) | (at_builtin; refine wpList_append_own_at _ rfl (.tmp 35) (.tmp 37) 22 rfl w.heap.size 2 i0 (.int .i64 0) 1 8 Try.underlying22 hi hz0 hz1 hz2 rfl (by decide) u6 _ _ rfl (hk2.alloc _) ⟨_, 0, none⟩ 1 1 [.int .i64 (Num.ve d c)] rfl rfl (cell_one_new _ _ _) (by simp [Value.oneCell']) (by unfold maxLen; omega) (by omega) (by simp only [World.size_alloc] at Z1 ⊢; omega) ?_; intro v2 w2 hown2 hgrow2 _ hat2))
          obtain ⟨a1, a2, a3, a4⟩ := two_rows own1 own2 hap hbel Z hown1 hgrow1 hat1 hown2 hgrow2 hat2
          exact ⟨⟨_, _, _, _, rfl, rfl, hs, a1, a2, a3, a4⟩, by simp [intOf]; omega⟩
        · have hs := Num.facInv_skip hn2 hinv hd hm
          obtain ⟨x1, x2⟩ := Num.v_stop c1 d1 hm
          have X1 := Lib.hid x1
          have X2 := Lib.hid x2
          clear hm hinv x1 x2
          go_wp2_with (first | (go_at_call 140; refine (removePrime_any _ _ _ d1 (by omega) c1 (by omega)).mono ?_; rw [X1.out, X2.out]; rintro e w' ⟨rfl, rfl⟩))
          exact ⟨⟨_, _, _, _, rfl, rfl, hs, own1, own2, hap, hbel⟩, by simp [intOf]; omega⟩
      · have hd' : c < d * d := by omega
        have hs := Num.facInv_last hn2 hinv hd' hc'
        obtain ⟨x1, x2⟩ := Num.v_self hc'
        have X1 := Lib.hid x1
        have X2 := Lib.hid x2
        clear hinv x1 x2 hd
        go_wp2_with (first | (go_at_call 140; refine (removePrime_any _ _ _ (by omega) (by omega) c1 (by omega)).mono ?_; rw [X1.out, X2.out]; rintro e w' ⟨rfl, rfl⟩) | (at_builtin; refine wpList_append_own_at _ rfl (.tmp 31) (.tmp 33) 22 rfl w.heap.size 2 i0 (.int .i64 0) 1 8 Try.underlying22 hi hz0 hz1 hz2 rfl (by decide) u5 _ _ rfl (own1.alloc _) ⟨_, 0, none⟩ 1 1 [.int .i64 c] rfl rfl (cell_one_new _ _ _) (by simp [Value.oneCell']) (by unfold maxLen; omega) (by omega) (by go_size) ?_; intro v1 w1 hown1 hgrow1 _ hat1; have hk2 := (own2.alloc (Obj.cells #[.int .i64 c] 2)).kept hgrow1 hap.symm; have Z1 := hgrow1.size) | (at_builtin; refine wpList_append_own_at _ rfl (.tmp 35) (.tmp 37) 22 rfl w.heap.size 2 i0 (.int .i64 0) 1 8 Try.underlying22 hi hz0 hz1 hz2 rfl (by decide) u6 _ _ rfl (hk2.alloc _) ⟨_, 0, none⟩ 1 1 [.int .i64 1] rfl rfl (cell_one_new _ _ _) (by simp [Value.oneCell']) (by unfold maxLen; omega) (by omega) (by simp only [World.size_alloc] at Z1 ⊢; omega) ?_; intro v2 w2 hown2 hgrow2 _ hat2))
        obtain ⟨a1, a2, a3, a4⟩ := two_rows own1 own2 hap hbel Z hown1 hgrow1 hat1 hown2 hgrow2 hat2
        exact ⟨⟨_, _, _, _, rfl, rfl, hs, a1, a2, a3, a4⟩, by simp [intOf]; omega⟩

/-- What both leave, the slices written out. -/
def FacPost (w : World) (P E : List Int) (e : Ending) (w' : World) : Prop :=
  ∃ A1 c1 A2 c2, e = .returned (.tuple #[.slice A1 P.length c1, .slice A2 E.length c2, .int .i64 0]) ∧ OwnI w' w.heap.size (.slice A1 P.length c1) P ∧ OwnI w' w.heap.size (.slice A2 E.length c2) E ∧ ApartV (.slice A1 P.length c1) (.slice A2 E.length c2) ∧ Below w.heap.size w w'
theorem FacPost.of {w w' : World} {P E : List Int} {e : Ending} (h : ∃ v1 v2, e = .returned (.tuple #[v1, v2, .int .i64 0]) ∧ OwnI w' w.heap.size v1 P ∧ OwnI w' w.heap.size v2 E ∧ ApartV v1 v2 ∧ Below w.heap.size w w') : FacPost w P E e w' := by
  obtain ⟨v1, v2, rfl, h1, h2, h3, h4⟩ := h
  obtain ⟨A1, c1, rfl⟩ := h1.form
  obtain ⟨A2, c2, rfl⟩ := h2.form
  exact ⟨A1, c1, A2, c2, rfl, h1, h2, h3, h4⟩
theorem factorize_bad (n : Int) (w : World) (hn : n < 1 ∨ 1000000 < n) :
    Calls Try.prog 115 #[.int .i64 n] w fun e w' => e = .returned (.tuple #[.slice none 0 0, .slice none 0 0, .int .i64 2]) ∧ w = w' := by
  go_enter Try.func115, Try.ntmps115
  go_wp2_with (go_at_call 139; refine (isNumber_no _ _ hn).mono ?_; rintro e w' ⟨rfl, rfl⟩)
  go_ret3
  exact ⟨rfl, rfl⟩
end Go.Proofs.Yteappjgdcbploaa
namespace Go.Proofs.Yteappjgdcbploaa
open Go.RowKit
set_option linter.unusedVariables false
set_option linter.unusedSimpArgs false

theorem factorize_post (n : Int) (w : World) (hn1 : 1 ≤ n) (hn2 : n ≤ 1000000) : Calls Try.prog 115 #[.int .i64 n] w (FacPost w (Num.facP 2 n) (Num.facE 2 n)) :=
  (factorize_ok n w hn1 hn2).mono fun _ _ h => FacPost.of h

end Go.Proofs.Yteappjgdcbploaa
namespace Go.Proofs.Yteappjgdcbploaa
open Go.RowKit
set_option linter.unusedVariables false
set_option linter.unusedSimpArgs false

/-- The power of an element as a function. -/
abbrev pwV (tb : Nat) (n : Int) : Value := .func (.func 74) #[elV tb n] #[]
def RdPw (w : World) (A : Option Addr) (tb : Nat) (ns : List Int) : Prop := ∀ j, j < ns.length → ∃ g o, A = some ⟨g, o, none⟩ ∧ g < w.heap.size ∧ w.cell? ⟨g, o + j, none⟩ = some (pwV tb (ns.getD j 0))
theorem RdPw.below {w w' : World} {A : Option Addr} {tb : Nat} {ns : List Int} (h : RdPw w A tb ns) (hb : Below w.heap.size w w') : RdPw w' A tb ns := fun j hj => by
  obtain ⟨g, o, e, hg, hc⟩ := h j hj
  exact ⟨g, o, e, Nat.lt_of_lt_of_le hg hb.size, (hb.cell hg).trans hc⟩
def allOne (Ls : List Num.Lv) (xs : List (List Int)) (k : Int) : Bool := xs.all fun x => decide (Num.powZ Ls x k = Num.zer Ls.length)
theorem allOne_iff {Ls : List Num.Lv} {xs : List (List Int)} {k : Int} : allOne Ls xs k = true ↔ ∀ j, j < xs.length → Num.powZ Ls (xs.getD j []) k = Num.zer Ls.length := by
  unfold allOne
  rw [List.all_eq_true]
  constructor
  · intro h j hj
    rw [List.getD_eq_getElem?_getD, List.getElem?_eq_getElem hj]
    exact of_decide_eq_true (h _ (List.getElem_mem hj))
  · intro h x hx
    obtain ⟨j, hj, rfl⟩ := List.mem_iff_getElem.mp hx
    have := h j hj
    rw [List.getD_eq_getElem?_getD, List.getElem?_eq_getElem hj] at this
    exact decide_eq_true this
theorem num_zero_iff {Ls : List Num.Lv} (h : Num.OkL Ls) {z : List Int} (hz : Num.El Ls z) : Num.numL Ls z = 0 ↔ z = Num.zer Ls.length := by
  constructor
  · intro e
    exact Num.numL_inj h hz (Num.zer_El h) (by rw [e, Num.numL_zer])
  · rintro rfl
    exact Num.numL_zer Ls
theorem powZ_El' {Ls : List Num.Lv} (h : Num.OkL Ls) (C : Num.Con Ls) {a : List Int} (ha : Num.El Ls a) (k : Int) : Num.El Ls (Num.powZ Ls a k) := by
  unfold Num.powZ
  split
  · exact (Num.Con.mon h C).pw_P (Num.inv_El h ha) _
  · exact (Num.Con.mon h C).pw_P ha _
set_option maxRecDepth 100000 in
set_option maxHeartbeats 2000000 in
theorem areId_any {O : List Int} {W : List (List Int)} {J : List (List (List Int))} {t : Tw} {w : World} (G : Gr O W J t w) (xs : List (List Int)) (hx : ∀ j, j < xs.length → Num.El (Num.tlL O W J 0) (xs.getD j [])) (A : Option Addr) (c : Nat) (k : Int) (h : RdPw w A t.tb (xs.map (Num.numL (Num.tlL O W J 0)))) (hl : xs.length ≤ 1000000) :
    Calls Try.prog 116 #[.slice A xs.length c, .int .i64 k] w (RetB (allOne (Num.tlL O W J 0) xs k) w) := by
  have HG := Lib.hid G
  have HX := Lib.hid hx
  have HR := Lib.hid h
  clear G hx h
  go_enter Try.func116, Try.ntmps116
  go_wp2_with (fail)
  go_loopw [6, 9] (fun _ s9 wr => ∃ i : Nat, i ≤ xs.length ∧ s9 = .int .i64 (i : Int) ∧ Hid (∀ j, j < i → Num.powZ (Num.tlL O W J 0) (xs.getD j []) k = Num.zer (Num.tlL O W J 0).length) ∧ Below w.heap.size w wr) (fun _ s9 _ => xs.length - (intOf s9).toNat)
  case atStart => exact ⟨0, by omega, rfl, Lib.hid fun j hj => by omega, Below.refl _ _⟩
  case round =>
    obtain ⟨i, hi, rfl, HD, bel⟩ := hrel
    by_cases hlt : i < xs.length
    · have i0 : (0 : Int) ≤ (i : Int) := by omega
      have i1 : (i : Int) < (xs.length : Int) := by omega
      have hgd : (xs.map (Num.numL (Num.tlL O W J 0))).getD i 0 = Num.numL (Num.tlL O W J 0) (xs.getD i []) := by
        rw [List.getD_eq_getElem?_getD, List.getElem?_map, List.getD_eq_getElem?_getD, List.getElem?_eq_getElem hlt]; rfl
      obtain ⟨g, o, rfl, hg, hc⟩ := (HR.out.below bel) i (by rw [List.length_map]; exact hlt)
      rw [hgd] at hc
      have HGr := Lib.hid (HG.out.below bel)
      have HE := Lib.hid (HX.out i hlt)
      have HC := Lib.hid (elPower_any HGr.out (xs.getD i []) HE.out k)
      have HZ := Lib.hid (num_zero_iff HG.out.ok (powZ_El' HG.out.ok HG.out.C HE.out k))
      have HN : Hid (Num.powZ (Num.tlL O W J 0) (xs.getD i []) k ≠ Num.zer (Num.tlL O W J 0).length → allOne (Num.tlL O W J 0) xs k = false) := Lib.hid fun hne => by
        cases hb : allOne (Num.tlL O W J 0) xs k with
        | false => rfl
        | true => exact absurd (allOne_iff.mp hb i hlt) hne
      have HS : Hid (Num.powZ (Num.tlL O W J 0) (xs.getD i []) k = Num.zer (Num.tlL O W J 0).length → ∀ j, j < i + 1 → Num.powZ (Num.tlL O W J 0) (xs.getD j []) k = Num.zer (Num.tlL O W J 0).length) := Lib.hid fun he j hj => by
        by_cases e : j = i
        · rw [e]; exact he
        · exact HD.out j (by omega)
      unfold RetE at HC
      generalize Num.numL (Num.tlL O W J 0) (Num.powZ (Num.tlL O W J 0) (xs.getD i []) k) = z at *
      generalize Num.powZ (Num.tlL O W J 0) (xs.getD i []) k = pz at *
      generalize Num.numL (Num.tlL O W J 0) (xs.getD i []) = nx at *
      have HI := Lib.hid (fun W' => isIdentity_any t.tb z W')
      clear HD hgd
      go_wp2_with (fail)
      refine HC.out.mono ?_; rintro e w1 ⟨rfl, hb1⟩
      have L1 := bstep bel bel.size hb1
      by_cases hz : z = 0
      · have HI1 := Lib.hid (HI.out w1)
        unfold RetB at HI1
        rw [decide_eq_true hz] at HI1
        have HS2 := Lib.hid (HS.out (HZ.out.mp hz))
        clear HI HC hb1 HS HN HZ
        subst hz
        go_wp2_with (fail)
        refine HI1.out.mono ?_; rintro e w2 ⟨rfl, hb2⟩
        have L2 := bstep L1 L1.size hb2
        go_wp2_with (fail)
        exact ⟨⟨i + 1, by omega, by go_num, HS2, L2⟩, by simp [intOf]; omega⟩
      · have HI1 := Lib.hid (HI.out w1)
        unfold RetB at HI1
        rw [decide_eq_false hz] at HI1
        have HF := Lib.hid (HN.out fun h => hz (HZ.out.mpr h))
        clear HI HC hb1 HS HN HZ
        go_wp2_with (fail)
        refine HI1.out.mono ?_; rintro e w2 ⟨rfl, hb2⟩
        go_wp2_with (fail)
        go_ret
        exact ⟨ret_b HF.out.symm, bstep L1 L1.size hb2⟩
    · have hge : ¬ ((i : Int) < (xs.length : Int)) := by omega
      obtain rfl : i = xs.length := by omega
      have HT : Hid (allOne (Num.tlL O W J 0) xs k = true) := Lib.hid (allOne_iff.mpr HD.out)
      go_wp2_with (fail)
      go_ret
      exact ⟨ret_b HT.out.symm, bel⟩
set_option maxRecDepth 100000 in
set_option maxHeartbeats 4000000 in
theorem least_any {O : List Int} {W : List (List Int)} {J : List (List (List Int))} {t : Tw} {w : World} (G : Gr O W J t w) (xs : List (List Int)) (hx : ∀ j, j < xs.length → Num.El (Num.tlL O W J 0) (xs.getD j [])) (A : Option Addr) (c : Nat) (h : RdPw w A t.tb (xs.map (Num.numL (Num.tlL O W J 0)))) (hl : xs.length ≤ 1000000)
    (D : Int) (hD : 1 ≤ D) (hDN : D ∣ Num.szL (Num.tlL O W J 0)) (hall : ∀ k : Int, 0 ≤ k → (allOne (Num.tlL O W J 0) xs k = true ↔ D ∣ k)) :
    Calls Try.prog 80 #[grV t.tb, .slice A xs.length c] w fun e w' => e = .returned (.int .i64 D) ∧ Below w.heap.size w w' := by
  have b0 : Below w.heap.size w (w.alloc (.cells #[.pointer (some ⟨t.tb, 0, none⟩)] 65)) := by go_grown
  have BX := Blk.new w [.pointer (some ⟨t.tb, 0, none⟩)] 65
  generalize hW0 : w.alloc (.cells #[.pointer (some ⟨t.tb, 0, none⟩)] 65) = W0 at *
  have HG := Lib.hid (G.below b0)
  have HX := Lib.hid hx
  have HR := Lib.hid (h.below b0)
  have HO := Lib.hid (order_any HG.out)
  have hsb := szL_bd G.V 0
  have HDN := Lib.hid hDN
  have HAL := Lib.hid hall
  obtain ⟨bl, y0⟩ := BX.c1
  have HARE : Hid (∀ (W' : World) (k : Int), Below W0.heap.size W0 W' → Calls Try.prog 116 #[.slice A xs.length c, .int .i64 k] W' (RetB (allOne (Num.tlL O W J 0) xs k) W')) := Lib.hid fun W' k hb => areId_any (HG.out.below hb) xs HX.out A c k (HR.out.below hb) hl
  clear G hx h hDN hall BX
  generalize Num.szL (Num.tlL O W J 0) = N at *
  have hN1 := hsb.1
  have hlP : (Num.facP 2 N).length ≤ 1000000 := by have := Num.facP_len (d := 2) hN1; omega
  go_enter Try.func80, Try.ntmps80
  go_wp2_with (fail)
  clear hW0
  refine HO.out.mono ?_; rintro e w1 ⟨rfl, hb1⟩
  go_wp2_with (fail)
  refine (factorize_post _ _ hN1 (by omega)).mono ?_; rintro e w3 ⟨A1, k1, A2, k2, rfl, s1, s2, _, b3⟩
  have L3 := bstep hb1 hb1.size b3
  have HRP := Lib.hid s1.reads
  clear s1 s2 b3 hb1 HO y0
  go_wp2_with (fail)
  go_loopw [21, 5] (fun s21 s5 wr => ∃ (j : Nat) (c : Int), s21 = .int .i64 (j : Int) ∧ s5 = .int .i64 c ∧ j ≤ (Num.facP 2 N).length ∧ Num.LeInv D N c j ∧ Below w3.heap.size w3 wr) (fun s21 _ _ => (Num.facP 2 N).length - (intOf s21).toNat)
  case atStart => exact ⟨0, N, rfl, rfl, by omega, Num.leInv_start hN1 HDN.out, Below.refl _ _⟩
  case round =>
    obtain ⟨j, cc, rfl, rfl, hj, hc, bw⟩ := hrel
    by_cases hlt : j < (Num.facP 2 N).length
    · obtain ⟨g, o, rfl, hg, hcell⟩ := (HRP.out.below' bw) j hlt
      have hpr := (Num.facP_pr hN1 hlt).1
      have hpN := Num.facP_le hN1 hlt
      have i0 : (0 : Int) ≤ (j : Int) := by omega
      have i1 : (j : Int) < ((Num.facP 2 N).length : Int) := by omega
      generalize hp : (Num.facP 2 N).getD j 0 = p at hcell hpr hpN
      have HPJ := Lib.hid hp
      clear hp
      go_wp2_with (fail)
      go_loopw [5] (fun s5 wi => ∃ c : Int, s5 = .int .i64 c ∧ Num.LeInv D N c j ∧ Below w3.heap.size w3 wi) (fun s5 _ => (intOf s5).toNat)
      case atStart => exact ⟨cc, rfl, hc, bw⟩
      case round =>
        obtain ⟨x, rfl, hx, bx⟩ := hrel
        clear hcell hg bw hc
        obtain ⟨x1, x2⟩ := Num.leInv_bd hN1 hx
        obtain ⟨q0, q1⟩ := Num.mod_bd x (m := p) (by omega)
        have hp0 : p ≠ 0 := by omega
        have tm : x.tmod p = x % p := Int.tmod_eq_emod_of_nonneg (by omega)
        have tmw : IntKind.i64.wrap (x % p) = x % p := IntWalk.i64_in _ (by omega)
        have d0 : 0 ≤ x / p := Int.ediv_nonneg (by omega) (by omega)
        have d1 : x / p ≤ x := Int.ediv_le_self _ (by omega)
        have tdv : x.tdiv p = x / p := Int.tdiv_eq_ediv_of_nonneg (by omega)
        have tdw : IntKind.i64.wrap (x / p) = x / p := IntWalk.i64_in _ (by omega)
        by_cases hd : x % p = 0
        · have HCA := Lib.hid (HARE.out wr (x / p) (bstep L3 L3.size bx))
          have HAX := Lib.hid (HAL.out (x / p) d0)
          have HD := Lib.hid hd
          rw [hd] at tm tmw
          clear hd
          unfold RetB at HCA
          cases hb : allOne (Num.tlL O W J 0) xs (x / p) with
          | true =>
            rw [hb] at HCA HAX
            obtain ⟨hs, hsl⟩ := Num.leInv_take hN1 hx hpr HD.out (HAX.out.mp rfl)
            clear hb
            go_wp2_with (fail)
            refine HCA.out.mono ?_; rintro e w5 ⟨rfl, hb5⟩
            go_wp2_with (fail)
            exact ⟨⟨_, rfl, hs, bstep bx bx.size hb5⟩, by simp [intOf]; omega⟩
          | false =>
            rw [hb] at HCA HAX
            have hn := Num.leInv_next hx (by rw [HPJ.out]; exact hpr) (fun h => by
              rw [HPJ.out] at h
              have := HAX.out.mpr h.2
              cases this)
            clear hb
            go_wp2_with (fail)
            refine HCA.out.mono ?_; rintro e w5 ⟨rfl, hb5⟩
            go_wp2_with (fail)
            exact ⟨⟨j + 1, x, by go_num, rfl, by omega, hn, bstep bx bx.size hb5⟩, by simp [intOf]; omega⟩
        · have hn := Num.leInv_next hx (by rw [HPJ.out]; exact hpr) (fun h => hd (by rw [HPJ.out] at h; exact h.1))
          have ht : (x % p == 0) = false := by simp [hd]
          clear hd
          go_wp2_with (fail)
          exact ⟨⟨j + 1, x, by go_num, rfl, by omega, hn, bx⟩, by simp [intOf]; omega⟩
    · have hge : ¬ ((j : Int) < ((Num.facP 2 N).length : Int)) := by omega
      have HE := Lib.hid (Num.leInv_end hN1 hD hc (by omega))
      go_wp2_with (fail)
      go_ret
      exact ⟨ret_i HE.out, bstep b0 b0.size (bstep L3 L3.size bw)⟩
end Go.Proofs.Yteappjgdcbploaa
namespace Go.Proofs.Yteappjgdcbploaa
open Go.RowKit
set_option linter.unusedVariables false
set_option linter.unusedSimpArgs false

theorem allOne_one {Ls : List Num.Lv} (h : Num.OkL Ls) (C : Num.Con Ls) {x : List Int} (hx : Num.El Ls x) {k : Int} (hk : 0 ≤ k) : allOne Ls [x] k = true ↔ Num.perL Ls x ∣ k := by
  rw [allOne_iff, ← Num.perL_dvd h C hx hk]
  have e : Num.powZ Ls x k = Num.pw (Num.mulL Ls) (Num.zer Ls.length) x k.toNat := by unfold Num.powZ; rw [if_neg (by omega)]
  constructor
  · intro a
    rw [← e]
    exact a 0 (by simp)
  · intro a j hj
    obtain rfl : j = 0 := by simp at hj; omega
    show Num.powZ Ls x k = _
    rw [e]
    exact a
/-- All elements, by their numbers. -/
def allEl (Ls : List Num.Lv) (n : Nat) : List (List Int) := (List.range n).map fun (i : Nat) => Num.decL Ls (i : Int)
theorem allEl_len (Ls : List Num.Lv) (n : Nat) : (allEl Ls n).length = n := by simp [allEl]
theorem allEl_at {Ls : List Num.Lv} {n j : Nat} (hj : j < n) : (allEl Ls n).getD j [] = Num.decL Ls (j : Int) := by
  unfold allEl
  rw [List.getD_eq_getElem?_getD, List.getElem?_map, List.getElem?_range hj]
  rfl
theorem allOne_all {Ls : List Num.Lv} (h : Num.OkL Ls) (C : Num.Con Ls) {n : Nat} (hn : (n : Int) ≤ Num.szL Ls) {k : Int} (hk : 0 ≤ k) : allOne Ls (allEl Ls n) k = true ↔ Num.expN Ls n ∣ k := by
  rw [allOne_iff, (Num.expN_ok h C n hn).2.2 k, allEl_len]
  have e : ∀ j, j < n → (Num.powZ Ls ((allEl Ls n).getD j []) k = Num.zer Ls.length ↔ Num.perL Ls (Num.decL Ls (j : Int)) ∣ k) := fun j hj => by
    have he := (Num.decL_El h (x := (j : Int)) (by omega) (by omega)).1
    rw [allEl_at hj, ← Num.perL_dvd h C he hk]
    unfold Num.powZ
    rw [if_neg (by omega)]
  exact ⟨fun a i hi => (e i hi).mp (a i hi), fun a i hi => (e i hi).mpr (a i hi)⟩
theorem allEl_num {Ls : List Num.Lv} (h : Num.OkL Ls) {n : Nat} (hn : (n : Int) ≤ Num.szL Ls) : (allEl Ls n).map (Num.numL Ls) = (List.range n).map fun (i : Nat) => (i : Int) := by
  unfold allEl
  rw [List.map_map]
  apply List.map_congr_left
  intro i hi
  have := List.mem_range.mp hi
  exact (Num.decL_El h (x := (i : Int)) (by omega) (by omega)).2
theorem range_snoc (m : Nat) : (List.range (m + 1)).map (fun (i : Nat) => (i : Int)) = (List.range m).map (fun (i : Nat) => (i : Int)) ++ [(m : Int)] := by
  rw [List.range_succ, List.map_append]; rfl
set_option maxRecDepth 100000 in
set_option maxHeartbeats 2000000 in
theorem iElementOrder_ok (v0 : Value) (p : Pres) (v1 : Value) (x : List Int) (w : World) (h0 : PresC w v0 p) (h1 : spI.rd w v1 x) (s0 : spPres.sz p ≤ 1048576) (s1 : spI.sz x ≤ 1048576) : Calls Try.prog 37 #[v0, v1] w (RetI (rElementOrder p x) (cElementOrder p x) w) := by
  have h0' := h0
  obtain ⟨A0, c0, A1, c1, A2, c2, rfl, -, m0, -, -, -⟩ := h0
  obtain ⟨B, d, rfl, hl, hB⟩ := h1
  have b0 : Below w.heap.size w (w.alloc (.cells #[.slice A0 p.O.length c0, .slice A1 p.W.length c1, .slice A2 p.J.length c2] 29)) := by go_grown
  generalize hW0 : w.alloc (.cells #[.slice A0 p.O.length c0, .slice A1 p.W.length c1, .slice A2 p.J.length c2] 29) = W0 at *
  have BX : Blk W0 w.heap.size [.slice A0 p.O.length c0, .slice A1 p.W.length c1, .slice A2 p.J.length c2] 29 := by rw [← hW0]; exact Blk.new w _ _
  have HC := Lib.hid (elsOne_any _ p B d x W0 (h0'.below b0) (hB.below' b0) hl)
  unfold ElsOne at HC
  obtain ⟨bl, y0, y1, y2⟩ := BX.c3
  clear h0' hB m0 BX
  cases hk : rIsElement p x with
  | true =>
    rw [cEl_yes hk] at HC
    have HR : Hid (rElementOrder p x = Num.perL p.L x ∧ cElementOrder p x = 0) := Lib.hid ⟨if_pos hk, if_pos hk⟩
    obtain ⟨hE1, hE2⟩ := Pres.el_con hk
    have HE := Lib.hid (Pres.el_out hE2).2
    go_enter Try.func37, Try.ntmps37
    go_wp2_with (fail)
    clear hW0
    refine HC.out.mono ?_; rintro e w1 ⟨q, ev, rfl, hb1, hT⟩
    obtain ⟨t, g, cE, rfl, GS, rfl, hg, e0, e1⟩ := hT hk
    have bA : Below w1.heap.size w1 (w1.alloc (.cells #[.pointer (some ⟨t.tb, 0, none⟩)] 65)) := by go_grown
    have L := bstep (bstep b0 b0.size hb1) (by have := b0.size; have := hb1.size; omega) bA
    have HG := Lib.hid (GS.below bA).G
    have f0 : (w1.alloc (.cells #[.pointer (some ⟨t.tb, 0, none⟩)] 65)).cell? ⟨g, 0, none⟩ = some (.pointer (some ⟨t.tb, 0, none⟩)) := (bA.cell hg).trans e0
    have f1 : (w1.alloc (.cells #[.pointer (some ⟨t.tb, 0, none⟩)] 65)).cell? ⟨g, 1, none⟩ = some (.int .i64 (Num.numL p.L x)) := (bA.cell hg).trans e1
    clear hT GS e0 e1 HC hb1 y0 y1 y2
    have BN := Blk.new w1 [.pointer (some ⟨t.tb, 0, none⟩)] 65
    have hgW := Nat.lt_of_lt_of_le hg bA.size
    generalize hW2 : w1.alloc (.cells #[.pointer (some ⟨t.tb, 0, none⟩)] 65) = W2 at *
    obtain ⟨nl, n0⟩ := BN.c1
    have BW5 : Below W2.heap.size W2 ((W2.alloc (.cells #[pwV t.tb (Num.numL p.L x)] 82)).drew) := ((Below.refl _ _).alloc (Nat.le_refl _) _).drew
    have HRP : Hid (RdPw ((W2.alloc (.cells #[pwV t.tb (Num.numL p.L x)] 82)).drew) (some ⟨W2.heap.size, 0, none⟩) t.tb ([x].map (Num.numL p.L))) := Lib.hid fun j hj => by
      obtain rfl : j = 0 := by simp at hj; omega
      exact ⟨_, 0, rfl, by simp, (((Blk.new W2 [pwV t.tb (Num.numL p.L x)] 82).drew).c1).2⟩
    have hpl := Num.perL_sz HG.out.ok HG.out.C HE.out
    have HL := Lib.hid (least_any (HG.out.below BW5) [x] (fun j hj => by
      obtain rfl : j = 0 := by simp at hj; omega
      exact HE.out) (some ⟨W2.heap.size, 0, none⟩) 1 HRP.out (by simp) (Num.perL p.L x) hpl.1 hpl.2 (fun k hk0 => allOne_one HG.out.ok HG.out.C HE.out hk0))
    rw [show ([x] : List (List Int)).length = 1 from rfl] at HL
    have hmf : ∀ (fn : Fn) (first cap : Array Value) (w : World), (Instr.makeFunc fn first cap).run Try.prog w = .ok (.func fn first cap) w := fun _ _ _ _ => rfl
    clear BN hpl HRP
    generalize Num.numL p.L x = nx at *
    generalize Num.perL p.L x = D at *
    go_wp2_with (fail)
    clear hW2
    go_region_held3 (fun wx => wx.cell? ⟨w1.heap.size, 0, none⟩ = some (.pointer (some ⟨t.tb, 0, none⟩)) ∧ wx.cell? ⟨g, 0, none⟩ = some (.pointer (some ⟨t.tb, 0, none⟩)) ∧ wx.cell? ⟨g, 1, none⟩ = some (.int .i64 nx)) (first | assumption | go_keep) (first
      | (go_at_call 80; (with_reducible refine HL.out.mono ?_); rintro e w6 ⟨rfl, hb6⟩; have L6 : Below W2.heap.size W2 w6 := bstep BW5 BW5.size hb6; have SM6 : w6.cell? ⟨w1.heap.size, 0, none⟩ = some (.pointer (some ⟨t.tb, 0, none⟩)) ∧ w6.cell? ⟨g, 0, none⟩ = some (.pointer (some ⟨t.tb, 0, none⟩)) ∧ w6.cell? ⟨g, 1, none⟩ = some (.int .i64 nx) := ⟨(L6.cell nl).trans n0, (L6.cell hgW).trans f0, (L6.cell hgW).trans f1⟩))
    all_goals
      go_wp2_with (fail)
      go_ret2
      rw [HR.out.1, HR.out.2]
      exact ⟨rfl, bstep L L.size L6⟩
  | false =>
    rw [cEl_no hk] at HC
    have HR : Hid (rElementOrder p x = 0 ∧ cElementOrder p x = 1) := Lib.hid ⟨if_neg (by rw [hk]; simp), if_neg (by rw [hk]; simp)⟩
    go_enter Try.func37, Try.ntmps37
    go_wp2_with (fail)
    clear hW0
    refine HC.out.mono ?_; rintro e w1 ⟨q, ev, rfl, hb1, hT⟩
    have bA : Below w1.heap.size w1 (w1.alloc (.cells #[.pointer q] 65)) := by go_grown
    have L := bstep (bstep b0 b0.size hb1) (by have := b0.size; have := hb1.size; omega) bA
    go_wp2_with (fail)
    go_ret2
    rw [HR.out.1, HR.out.2]
    exact ⟨rfl, L⟩
theorem infoPw : (Try.prog.info? 82).map (fun i => (i.zero, i.size, i.bytes)) = some (some .nilFunc, 1, 8) := by kernel_rfl
def pwF (tb : Nat) (n : Int) : List Value := [pwV tb n]
theorem pwF_len (tb : Nat) (n : Int) : (pwF tb n).length = 1 := rfl
abbrev OwnPw (tb : Nat) (w : World) (base : Nat) (v : Value) (ns : List Int) : Prop := OwnM (pwF tb) 1 82 w base v ns
theorem OwnPw.reads {tb : Nat} {w : World} {base : Nat} {A : Option Addr} {n c : Nat} {ns : List Int} (h : OwnPw tb w base (.slice A n c) ns) : RdPw w A tb ns := fun j hj => by
  obtain ⟨g, e, -, hg, hc⟩ := OwnM.at_ (pwF_len tb) h hj
  refine ⟨g, 0, e, hg, ?_⟩
  have h1 := hc 0 (by omega)
  rw [show j * 1 + 0 = 0 + j by omega] at h1
  rw [h1, List.getD_eq_getElem?_getD, List.getElem?_eq_getElem hj]
  rfl
theorem cell_new1 (w : World) (x : Value) (t : TypeId) : ∀ j u', [x][j]? = some u' → (w.alloc (.cells #[x] t)).cell? ((⟨w.heap.size, 0, none⟩ : Addr).add j) = some u' := by
  intro j u' h
  obtain ⟨hj, rfl⟩ := List.getElem?_eq_some_iff.mp h
  obtain rfl : j = 0 := by simp at hj; omega
  simp [Addr.add_lit]
theorem wpList_pushPw {ops : Array Oper} {rest : List Oper} {o : Oper} {a : Act} {Q : Exit → Act → World → Prop} (wl : World) (hgd : o.guard = none) (sO xO : Operand)
    (ho : o.op = .call { callee := .builtin .append, args := #[sO, xO], argTypes := #[95, 95] })
    (B tb : Nat) (v : Value) (ns : List Int) (n : Int) (hs : a.eval sO = v) (hx : a.eval xO = .slice (some ⟨wl.heap.size, 0, none⟩) 1 1) (own : OwnPw tb wl B v ns) (hB : B ≤ wl.heap.size) (hl : ns.length ≤ 3000)
    (w0 : World) (bw : Below B w0 wl)
    (h : ∀ (v' : Value) (w' : World), OwnPw tb w' B v' (ns ++ [n]) → Below B w0 w' → wpList Try.prog ops Q rest (a.put o.dst v') w') :
    wpList Try.prog ops Q (o :: rest) a (wl.alloc (.cells #[pwV tb n] 82)) := by
  obtain ⟨i0, hi, hz0, hz1, hz2⟩ := info_parts infoPw
  refine wpList_append_lies (P := Try.prog) (wl.alloc (.cells #[pwV tb n] 82)) hgd sO xO 95 ho B 82 i0 .nilFunc 1 8 Try.underlying95 hi hz0 hz1 hz2 rfl (by decide) v ns.length (ns.flatMap (pwF tb)) hs (own.alloc _) ⟨wl.heap.size, 0, none⟩ 1 1 [pwV tb n] hx rfl (cell_new1 _ _ _) (by simp [Value.oneCell']) (by decide) (by unfold maxLen; omega) (by omega) (by go_size) _ rfl ?_
  intro g cap w' own3 gr3 at3 lt3
  obtain ⟨h1, h2⟩ := OwnM.push (f := pwF tb) (p := n) own bw hB own3 gr3
  exact h _ w' h1 h2
set_option maxRecDepth 100000 in
set_option maxHeartbeats 4000000 in
theorem iGroupExponent_ok (v0 : Value) (p : Pres) (w : World) (h0 : PresC w v0 p) (s0 : spPres.sz p ≤ 1048576) : Calls Try.prog 49 #[v0] w (RetI (rGroupExponent p) (cGroupExponent p) w) := by
  have h0' := h0
  obtain ⟨A0, c0, A1, c1, A2, c2, rfl, -, m0, -, -, -⟩ := h0
  have b0 : Below w.heap.size w (w.alloc (.cells #[.slice A0 p.O.length c0, .slice A1 p.W.length c1, .slice A2 p.J.length c2] 29)) := by go_grown
  generalize hW0 : w.alloc (.cells #[.slice A0 p.O.length c0, .slice A1 p.W.length c1, .slice A2 p.J.length c2] 29) = W0 at *
  have BX : Blk W0 w.heap.size [.slice A0 p.O.length c0, .slice A1 p.W.length c1, .slice A2 p.J.length c2] 29 := by rw [← hW0]; exact Blk.new w _ _
  have HC := Lib.hid (groupOf_any _ p W0 (h0'.below b0))
  obtain ⟨bl, y0, y1, y2⟩ := BX.c3
  clear h0' m0 BX
  cases hk : p.con with
  | true =>
    rw [hk] at HC
    obtain ⟨V, C⟩ := Pres.con_Con hk
    go_enter Try.func49, Try.ntmps49
    go_wp2_with (fail)
    clear hW0
    refine HC.out.mono ?_; rintro e w1 ⟨q, rfl, hb1, hT⟩
    obtain ⟨t, rfl, GS⟩ := hT trivial
    have bA : Below w1.heap.size w1 (w1.alloc (.cells #[.pointer (some ⟨t.tb, 0, none⟩)] 65)) := by go_grown
    have BN := Blk.new w1 [.pointer (some ⟨t.tb, 0, none⟩)] 65
    have L := bstep (bstep b0 b0.size hb1) (by have := b0.size; have := hb1.size; omega) bA
    have HG := Lib.hid (GS.below bA).G
    clear hT GS HC hb1 y0 y1 y2
    generalize hW2 : w1.alloc (.cells #[.pointer (some ⟨t.tb, 0, none⟩)] 65) = W2 at *
    have HBN := Lib.hid BN
    obtain ⟨nl, n0⟩ := BN.c1
    have HOR : Hid (∀ W', Below W2.heap.size W2 W' → _) := Lib.hid fun W' hb => order_any (HG.out.below hb)
    have HOR2 := Lib.hid (HOR.out W2 (Below.refl _ _))
    have hsb := szL_bd V 0
    have HEX := Lib.hid (Num.expN_ok (V.ok 0) C (Num.szL (Num.tlL p.O p.W p.J 0)).toNat (by omega))
    have HAO : Hid (∀ k : Int, 0 ≤ k → (allOne (Num.tlL p.O p.W p.J 0) (allEl (Num.tlL p.O p.W p.J 0) (Num.szL (Num.tlL p.O p.W p.J 0)).toNat) k = true ↔ Num.expN (Num.tlL p.O p.W p.J 0) (Num.szL (Num.tlL p.O p.W p.J 0)).toNat ∣ k)) := Lib.hid fun k hk0 => allOne_all (V.ok 0) C (by omega) hk0
    have HNUM := Lib.hid (allEl_num (V.ok 0) (n := (Num.szL (Num.tlL p.O p.W p.J 0)).toNat) (by omega))
    have HEL : Hid (∀ j, j < (allEl (Num.tlL p.O p.W p.J 0) (Num.szL (Num.tlL p.O p.W p.J 0)).toNat).length → Num.El (Num.tlL p.O p.W p.J 0) ((allEl (Num.tlL p.O p.W p.J 0) (Num.szL (Num.tlL p.O p.W p.J 0)).toNat).getD j [])) := Lib.hid fun j hj => by
      rw [allEl_len] at hj
      rw [allEl_at hj]
      exact (Num.decL_El (V.ok 0) (x := (j : Int)) (by omega) (by omega)).1
    have hmf : ∀ (fn : Fn) (first cap : Array Value) (w : World), (Instr.makeFunc fn first cap).run Try.prog w = .ok (.func fn first cap) w := fun _ _ _ _ => rfl
    have HKR : Hid (rGroupExponent p = (if Num.szL (Num.tlL p.O p.W p.J 0) ≤ 128 then Num.expN (Num.tlL p.O p.W p.J 0) (Num.szL (Num.tlL p.O p.W p.J 0)).toNat else 0) ∧ cGroupExponent p = (if Num.szL (Num.tlL p.O p.W p.J 0) ≤ 128 then 0 else 3)) := Lib.hid ⟨if_pos hk, if_pos hk⟩
    have HLE : Hid (∀ (W' : World) (A : Option Addr) (c : Nat), Below W2.heap.size W2 W' → RdPw W' A t.tb ((List.range (Num.szL (Num.tlL p.O p.W p.J 0)).toNat).map fun (i : Nat) => (i : Int)) → Num.szL (Num.tlL p.O p.W p.J 0) ≤ 128 → Calls Try.prog 80 #[grV t.tb, .slice A (Num.szL (Num.tlL p.O p.W p.J 0)).toNat c] W' fun e w' => e = .returned (.int .i64 (Num.expN (Num.tlL p.O p.W p.J 0) (Num.szL (Num.tlL p.O p.W p.J 0)).toNat)) ∧ Below W'.heap.size W' w') := Lib.hid fun W' A c hb hr h128 => by
      have := least_any (HG.out.below hb) (allEl (Num.tlL p.O p.W p.J 0) (Num.szL (Num.tlL p.O p.W p.J 0)).toNat) HEL.out A c (by rw [HNUM.out]; exact hr) (by rw [allEl_len]; omega) _ HEX.out.1 HEX.out.2.1 HAO.out
      rwa [allEl_len] at this
    clear BN V C HEX HAO HNUM HEL
    generalize Num.expN (Num.tlL p.O p.W p.J 0) (Num.szL (Num.tlL p.O p.W p.J 0)).toNat = D at *
    generalize Num.szL (Num.tlL p.O p.W p.J 0) = N at *
    by_cases hlim : N ≤ 128
    · have HR : Hid (rGroupExponent p = D ∧ cGroupExponent p = 0) := Lib.hid ⟨by rw [HKR.out.1, if_pos hlim], by rw [HKR.out.2, if_pos hlim]⟩
      have hnl : ¬ (128 : Int) < N := by omega
      obtain ⟨M, rfl⟩ : ∃ M : Nat, N = (M : Int) := ⟨N.toNat, by omega⟩
      rw [Int.toNat_natCast] at HLE
      go_wp2_with (fail)
      clear hW2
      refine HOR2.out.mono ?_; rintro e w3 ⟨rfl, hb3⟩
      have L3 := bstep L L.size hb3
      obtain ⟨nl3, n03⟩ := (HBN.out.below hb3).c1
      have HOR3 := Lib.hid (HOR.out w3 hb3)
      clear HOR2
      go_wp2_with (fail)
      refine HOR3.out.mono ?_; rintro e w4 ⟨rfl, hb4⟩
      have L4 := bstep L3 L3.size hb4
      have M4 := bstep hb3 hb3.size hb4
      clear HOR3 HOR n0 n03
      go_wp2_with (fail)
      go_loopw [6, 7, 22] (fun s6 _ s22 wr => ∃ m : Nat, m ≤ M ∧ s22 = .int .i64 (m : Int) ∧ Hid (OwnPw t.tb wr w4.heap.size s6 ((List.range m).map fun (i : Nat) => (i : Int))) ∧ Below w4.heap.size w4 wr) (fun _ _ s22 _ => M - (intOf s22).toNat)
      case atStart => exact ⟨0, by omega, rfl, Lib.hid (OwnM.nil _ _), Below.refl _ _⟩
      case round =>
        obtain ⟨m, hm, rfl, own, bel⟩ := hrel
        have Z := bel.size
        have LB := bstep M4 M4.size bel
        obtain ⟨nl5, n05⟩ := (HBN.out.below LB).c1
        by_cases hlt : m < M
        · have i1 : (m : Int) < (M : Int) := by omega
          have ow := own.out
          have hol : ((List.range m).map fun (i : Nat) => (i : Int)).length ≤ 1000 := by rw [List.length_map, List.length_range]; omega
          have HSN := Lib.hid (range_snoc m)
          have hw : IntKind.i64.wrap ((m : Int) + 1) = ((m + 1 : Nat) : Int) := by rw [IntWalk.i64_in _ (by omega)]; omega
          clear own
          generalize (List.range m).map (fun (i : Nat) => (i : Int)) = os at *
          go_wp2_with (first | (at_builtin; refine wpList_pushPw wr rfl (.tmp 25) (.tmp 30) rfl w4.heap.size t.tb u6 os (m : Int) rfl rfl ow Z (by omega) w4 bel ?_; intro v6 w6 own6 B6))
          have P6 : Hid (OwnPw t.tb w6 w4.heap.size v6 ((List.range (m + 1)).map fun (i : Nat) => (i : Int))) := Lib.hid (by rw [HSN.out]; exact own6)
          clear own6 ow
          go_wp2_with (fail)
          exact ⟨⟨m + 1, by omega, by go_num, P6, B6⟩, by simp [intOf]; omega⟩
        · have hge : ¬ ((m : Int) < (M : Int)) := by omega
          obtain rfl : m = M := by omega
          obtain ⟨AP, cP, hu6, -⟩ := own.out.form
          rw [List.length_map, List.length_range] at hu6
          subst hu6
          have HL := Lib.hid (HLE.out wr AP cP LB own.out.reads (by omega))
          clear own
          go_wp2_with (fail)
          refine HL.out.mono ?_; rintro e w7 ⟨rfl, hb7⟩
          go_wp2_with (fail)
          go_ret2
          rw [HR.out.1, HR.out.2]
          exact ⟨rfl, bstep (bstep L L.size LB) (by have := L.size; have := LB.size; omega) hb7⟩
    · have HR : Hid (rGroupExponent p = 0 ∧ cGroupExponent p = 3) := Lib.hid ⟨by rw [HKR.out.1, if_neg hlim], by rw [HKR.out.2, if_neg hlim]⟩
      have hnl : (128 : Int) < N := by omega
      go_wp2_with (fail)
      clear hW2
      refine HOR2.out.mono ?_; rintro e w3 ⟨rfl, hb3⟩
      go_wp2_with (fail)
      go_ret2
      rw [HR.out.1, HR.out.2]
      exact ⟨rfl, bstep L L.size hb3⟩
  | false =>
    rw [hk] at HC
    have HR : Hid (rGroupExponent p = 0 ∧ cGroupExponent p = 1) := Lib.hid ⟨if_neg (by rw [hk]; simp), if_neg (by rw [hk]; simp)⟩
    go_enter Try.func49, Try.ntmps49
    go_wp2_with (fail)
    clear hW0
    refine HC.out.mono ?_; rintro e w1 ⟨q, rfl, hb1, -⟩
    have bA : Below w1.heap.size w1 (w1.alloc (.cells #[.pointer q] 65)) := by go_grown
    have L := bstep (bstep b0 b0.size hb1) (by have := b0.size; have := hb1.size; omega) bA
    go_wp2_with (fail)
    go_ret2
    rw [HR.out.1, HR.out.2]
    exact ⟨rfl, L⟩
end Go.Proofs.Yteappjgdcbploaa
namespace Go.Proofs.Yteappjgdcbploaa
open Go.RowKit
set_option linter.unusedVariables false
set_option linter.unusedSimpArgs false

theorem sZeroV_any (A : Option Addr) (n c : Nat) (x : List Int) (w : World) (h : RdI w A x) (hn : x.length = n) (hl : n ≤ 100000) :
    Calls Try.prog 114 #[.slice A n c] w fun e w' => e = .returned (.bool (decide (x = Num.zer n))) ∧ w = w' := by
  subst hn
  have HY : Hid ((∀ j, j < x.length → x.getD j 0 = 0) → decide (x = Num.zer x.length) = true) := Lib.hid fun h => decide_eq_true (by
    apply List.ext_getElem (by simp)
    intro j h1 h2
    have := h j h1
    rw [List.getD_eq_getElem?_getD, List.getElem?_eq_getElem h1] at this
    simp only [Num.zer, List.getElem_replicate]
    exact this)
  have HN : Hid (∀ j, j < x.length → x.getD j 0 ≠ 0 → decide (x = Num.zer x.length) = false) := Lib.hid fun j hj hne => decide_eq_false fun e => hne (by
    rw [e, List.getD_eq_getElem?_getD]
    unfold Num.zer
    rw [List.getElem?_replicate]
    split <;> rfl)
  generalize decide (x = Num.zer x.length) = b at *
  go_enter Try.func114, Try.ntmps114
  go_wp2_with (fail)
  go_loopw [3] (fun s wr => ∃ k : Nat, s = .int .i64 k ∧ k ≤ x.length ∧ Hid (∀ j, j < k → x.getD j 0 = 0) ∧ w = wr) (fun s _ => x.length - (intOf s).toNat)
  case atStart => exact ⟨0, rfl, by omega, Lib.hid (fun j hj => by omega), rfl⟩
  case round =>
    obtain ⟨k, rfl, hk, hf, rfl⟩ := hrel
    by_cases hlt : k < x.length
    · obtain ⟨g, o, rfl, hg, hc⟩ := h k hlt
      have i0 : (0 : Int) ≤ (k : Int) := by omega
      have i1 : (k : Int) < (x.length : Int) := by omega
      by_cases hz : x.getD k 0 = 0
      · have T1 : (x.getD k 0 != 0) = false := by simpa using hz
        have HF : Hid (∀ j, j < k + 1 → x.getD j 0 = 0) := Lib.hid fun j hj => by
          rcases Nat.lt_succ_iff_lt_or_eq.mp hj with h1 | rfl
          · exact hf.out j h1
          · exact hz
        clear hf hz
        generalize x.getD k 0 = y at *
        go_wp2_with (fail)
        exact ⟨⟨k + 1, by go_num, by omega, HF, by first | rfl | trivial⟩, by simp [intOf]; omega⟩
      · have T1 : (x.getD k 0 != 0) = true := by simpa using hz
        have HB := Lib.hid (HN.out k hlt hz)
        clear hf hz
        generalize x.getD k 0 = y at *
        go_wp2_with (fail)
        go_ret
        exact ⟨by rw [HB.out]; rfl, rfl⟩
    · have hge : ¬ ((k : Int) < (x.length : Int)) := by omega
      obtain rfl : k = x.length := by omega
      have HB := Lib.hid (HY.out hf.out)
      go_wp2_with (fail)
      go_ret
      exact ⟨by rw [HB.out]; rfl, rfl⟩
set_option maxRecDepth 100000 in
set_option maxHeartbeats 4000000 in
theorem sPeriod_any {A0 A1 A2 : Option Addr} {c0 c1 c2 : Nat} {O : List Int} {W : List (List Int)} {J : List (List (List Int))} (V : Num.Val O W J) (C : Num.Con (Num.tlL O W J 0)) (w : World) (a : List Int) (A : Option Addr) (ca : Nat) (hP : RdP A0 A1 A2 O W J w) (hA : RdI w A a) (ha : Num.El (Num.tlL O W J 0) a) :
    Calls Try.prog 79 #[prV A0 A1 A2 c0 c1 c2 O, .slice A O.length ca] w fun e w' => e = .returned (.int .i64 (Num.perL (Num.tlL O W J 0) a)) ∧ Below w.heap.size w w' := by
  have n6 := V.n6
  have M := Num.Con.mon (V.ok 0) C
  have HM := Lib.hid M
  have HV := Lib.hid V
  have HA := Lib.hid ha
  have hsb := szM_bd V 0
  have HSZ := Lib.hid (Num.pw_sz (V.ok 0) C ha)
  have HLEN : Hid (∀ z, Num.El (Num.tlL O W J 0) z → z.length = O.length) := Lib.hid fun z hz => by have := hz.len; rw [Num.tlL_len] at this; omega
  have b0 : Below w.heap.size w (w.alloc (.cells #[.slice A0 O.length c0, .slice A1 O.length c1, .slice A2 O.length c2] 29)) := by go_grown
  have BX := Blk.new w [.slice A0 O.length c0, .slice A1 O.length c1, .slice A2 O.length c2] 29
  generalize hW0 : w.alloc (.cells #[.slice A0 O.length c0, .slice A1 O.length c1, .slice A2 O.length c2] 29) = W0 at *
  have HBX := Lib.hid BX
  have HPW : Hid (∀ W', Below W0.heap.size W0 W' → RdP A0 A1 A2 O W J W' ∧ RdI W' A a) := Lib.hid fun W' hb' => by
    have hb := bstep b0 b0.size hb'
    exact ⟨⟨hP.1.below' hb, hP.2.1.below' hb, hP.2.2.below' hb⟩, hA.below' hb⟩
  have HOR : Hid (∀ W', Below W0.heap.size W0 W' → _) := Lib.hid fun W' hb => sOrder_any (A1 := A1) (A2 := A2) (c0 := c0) (c1 := c1) (c2 := c2) V W' (HPW.out W' hb).1.1
  have HPE : Hid (∀ n : Nat, Num.pw (Num.mulL (Num.tlL O W J 0)) (Num.zer (Num.tlL O W J 0).length) a (n + 1) = Num.zer (Num.tlL O W J 0).length → (∀ j : Nat, 1 ≤ j → j ≤ n → Num.pw (Num.mulL (Num.tlL O W J 0)) (Num.zer (Num.tlL O W J 0).length) a j ≠ Num.zer (Num.tlL O W J 0).length) → Num.perL (Num.tlL O W J 0) a = ((n + 1 : Nat) : Int)) := Lib.hid fun n h1 h2 => Num.perL_is ⟨by omega, by rw [Int.toNat_natCast]; exact h1, fun j hj1 hj2 => h2 j.toNat (by omega) (by omega)⟩
  have HP1 : Hid (Num.pw (Num.mulL (Num.tlL O W J 0)) (Num.zer (Num.tlL O W J 0).length) a 1 = a) := Lib.hid (M.onel _ ha)
  have HLZ : Hid ((Num.tlL O W J 0).length = O.length) := Lib.hid (by rw [Num.tlL_len]; rfl)
  clear hP hA ha V C M BX
  generalize hN : Num.szL (Num.tlL O W J 0) = N at *
  go_enter Try.func79, Try.ntmps79
  go_wp2_with (fail)
  clear hW0
  go_loopw [5, 6] (fun s5 s6 wr => ∃ (n : Nat) (B : Option Addr) (c : Nat), s5 = .int .i64 ((n + 1 : Nat) : Int) ∧ s6 = .slice B O.length c ∧ (n : Int) ≤ N ∧ Hid (RdI wr B (Num.pw (Num.mulL (Num.tlL O W J 0)) (Num.zer (Num.tlL O W J 0).length) a (n + 1))) ∧ Hid (∀ j : Nat, 1 ≤ j → j ≤ n → Num.pw (Num.mulL (Num.tlL O W J 0)) (Num.zer (Num.tlL O W J 0).length) a j ≠ Num.zer (Num.tlL O W J 0).length) ∧ Below W0.heap.size W0 wr) (fun s5 _ _ => (N + 1 - intOf s5).toNat)
  case atStart => exact ⟨0, A, ca, rfl, rfl, by omega, Lib.hid (by rw [HP1.out]; exact (HPW.out _ (Below.refl _ _)).2), Lib.hid (fun j h1 h2 => by omega), Below.refl _ _⟩
  case round =>
    obtain ⟨n, B, c, rfl, rfl, hn, HR, HNZ, bel⟩ := hrel
    obtain ⟨bl, y0, y1, y2⟩ := (HBX.out.below bel).c3
    have HE := Lib.hid (HM.out.pw_P HA.out (n + 1))
    have HZC := Lib.hid (sZeroV_any B O.length c _ wr HR.out (HLEN.out _ HE.out) (by omega))
    by_cases hz : Num.pw (Num.mulL (Num.tlL O W J 0)) (Num.zer (Num.tlL O W J 0).length) a (n + 1) = Num.zer (Num.tlL O W J 0).length
    · have HRES := Lib.hid (HPE.out n hz HNZ.out)
      rw [decide_eq_true (by rw [hz, HLZ.out])] at HZC
      clear hz HR HNZ HE
      generalize ((n + 1 : Nat) : Int) = nn at *
      go_wp2_with (fail)
      refine HZC.out.mono ?_; rintro e w1 ⟨rfl, rfl⟩
      go_wp2_with (fail)
      go_ret
      exact ⟨ret_i HRES.out.symm, bstep b0 b0.size bel⟩
    · have hlt : ((n + 1 : Nat) : Int) ≤ N := by
        rcases Int.lt_or_le (n : Int) N with h | h
        · omega
        · exfalso
          have hnN : n = N.toNat := by omega
          exact HNZ.out N.toNat (by omega) (by omega) HSZ.out
      rw [decide_eq_false (by rw [← HLZ.out]; exact hz)] at HZC
      have HO1 := Lib.hid (HOR.out wr bel)
      have HMU : Hid (∀ W', Below wr.heap.size wr W' → Calls Try.prog 64 #[prV A0 A1 A2 c0 c1 c2 O, .slice B O.length c, .slice A O.length ca] W' (VecO O (Num.pw (Num.mulL (Num.tlL O W J 0)) (Num.zer (Num.tlL O W J 0).length) a (n + 1 + 1)) W')) := Lib.hid fun W' hb => by
        rw [Num.pw_succ (Num.mulL (Num.tlL O W J 0)) (Num.zer (Num.tlL O W J 0).length) a (n + 1)]
        exact sMul_any HV.out W' _ a B A c ca (HPW.out _ (bstep bel bel.size hb)).1 (HR.out.below' hb) (HPW.out _ (bstep bel bel.size hb)).2 HE.out HA.out
      have HNZ2 : Hid (∀ j : Nat, 1 ≤ j → j ≤ n + 1 → Num.pw (Num.mulL (Num.tlL O W J 0)) (Num.zer (Num.tlL O W J 0).length) a j ≠ Num.zer (Num.tlL O W J 0).length) := Lib.hid fun j h1 h2 => by
        by_cases e : j = n + 1
        · rw [e]; exact hz
        · exact HNZ.out j h1 (by omega)
      unfold VecO at HMU
      have hwk : IntKind.i64.wrap (((n + 1 : Nat) : Int) + 1) = ((n + 1 + 1 : Nat) : Int) := by rw [IntWalk.i64_in _ (by omega)]; omega
      have HEQ : Hid (((n + 1 : Nat) : Int) = (n : Int) + 1) := Lib.hid (by omega)
      clear hz HR HNZ HE HOR HSZ
      generalize hnn : ((n + 1 : Nat) : Int) = nn at *
      have HNN := Lib.hid hnn
      clear hnn
      go_wp2_with (fail)
      refine HZC.out.mono ?_; rintro e w1 ⟨rfl, rfl⟩
      go_wp2_with (fail)
      refine HO1.out.mono ?_; rintro e w2 ⟨rfl, hb2⟩
      have L2 := bstep bel bel.size hb2
      obtain ⟨bl2, z0, z1, z2⟩ := (HBX.out.below L2).c3
      have HM2 := Lib.hid (HMU.out w2 hb2)
      clear HZC HO1 HMU y0 y1 y2
      go_wp2_with (fail)
      refine HM2.out.mono ?_; rintro e w3 ⟨B3, d3, rfl, ow3, hb3⟩
      have L3 := bstep L2 L2.size hb3
      have HR3 := Lib.hid ow3.reads
      clear HM2 ow3
      go_wp2_with (fail)
      exact ⟨⟨n + 1, B3, d3, rfl, rfl, by have := HEQ.out; omega, HR3, HNZ2, L3⟩, by have := HEQ.out; simp [intOf]; omega⟩
set_option maxRecDepth 100000 in
set_option maxHeartbeats 2000000 in
theorem sElementOrder_ok (v0 : Value) (p : Pres) (v1 : Value) (x : List Int) (w : World) (h0 : spPres.rd w v0 p) (h1 : spI.rd w v1 x) (s0 : spPres.sz p ≤ 1048576) (s1 : spI.sz x ≤ 1048576) : Calls Try.prog 36 #[v0, v1] w (RetI (rElementOrder p x) (cElementOrder p x) w) := by
  have h0' := h0
  have h1' := h1
  obtain ⟨A0, c0, A1, c1, A2, c2, rfl, ⟨hO, hW, hJ⟩, m0, -, -⟩ := pres_open h0
  obtain ⟨B, d, rfl, hl, hB⟩ := h1
  have b0 : Below w.heap.size w (w.alloc (.cells #[.slice A0 p.O.length c0, .slice A1 p.W.length c1, .slice A2 p.J.length c2] 29)) := by go_grown
  have BX := Blk.new w [.slice A0 p.O.length c0, .slice A1 p.W.length c1, .slice A2 p.J.length c2] 29
  generalize hW0 : w.alloc (.cells #[.slice A0 p.O.length c0, .slice A1 p.W.length c1, .slice A2 p.J.length c2] 29) = W0 at *
  have HBX := Lib.hid BX
  obtain ⟨bl, y0, y1, y2⟩ := BX.c3
  have HI := Lib.hid (sIsElement_ok _ p _ x W0 (spPres.rd_below h0' b0) (spI.rd_below h1' b0) s0 s1)
  have HP : Hid (∀ W', Below w.heap.size w W' → RdI W' A0 p.O ∧ RdW W' A1 p.W ∧ RdX W' A2 p.J) := Lib.hid fun W' hb => ⟨hO.below' hb, hW.below' hb, hJ.below' hb⟩
  have HX : Hid (∀ W', Below w.heap.size w W' → RdI W' B x) := Lib.hid fun W' hb => hB.below' hb
  cases hk : rIsElement p x with
  | true =>
    rw [hk] at HI
    obtain ⟨hc, he⟩ := Pres.el_con hk
    obtain ⟨V, C⟩ := Pres.con_Con hc
    obtain ⟨lx, ex⟩ := Pres.el_out he
    have HR : Hid (rElementOrder p x = Num.perL p.L x ∧ cElementOrder p x = 0) := Lib.hid ⟨if_pos hk, if_pos hk⟩
    have HM : Hid (∀ W', Below w.heap.size w W' → Calls Try.prog 79 #[.agg #[.slice A0 p.O.length c0, .slice A1 p.W.length c1, .slice A2 p.J.length c2], .slice B p.O.length d] W' (fun e w' => e = .returned (.int .i64 (Num.perL p.L x)) ∧ Below W'.heap.size W' w')) := Lib.hid fun W' hb => by
      rw [V.lw, V.lj]
      exact sPeriod_any V C W' x B d (HP.out W' hb) (HX.out W' hb) ex
    rw [lx] at HI ⊢
    generalize Num.perL p.L x = z at *
    clear h0 h0' h1' hO hW hJ hB BX m0 HP hl HX ex V C lx
    go_enter Try.func36, Try.ntmps36
    go_wp2_with (fail)
    clear hW0
    refine HI.out.mono ?_; rintro e w1 ⟨rfl, hb1⟩
    have L1 := bstep b0 b0.size hb1
    obtain ⟨bl1, z0, z1, z2⟩ := (HBX.out.below hb1).c3
    have HM1 := Lib.hid (HM.out w1 L1)
    clear HI HM y0 y1 y2
    go_wp2_with (fail)
    refine HM1.out.mono ?_; rintro e w4 ⟨rfl, hb4⟩
    go_wp2_with (fail)
    go_ret2
    rw [HR.out.1, HR.out.2]
    exact ⟨rfl, bstep L1 L1.size hb4⟩
  | false =>
    rw [hk] at HI
    have HR : Hid (rElementOrder p x = 0 ∧ cElementOrder p x = 1) := Lib.hid ⟨if_neg (by rw [hk]; simp), if_neg (by rw [hk]; simp)⟩
    clear h0 h0' h1' hO hW hJ hB BX m0 HP hl HX
    go_enter Try.func36, Try.ntmps36
    go_wp2_with (fail)
    clear hW0
    refine HI.out.mono ?_; rintro e w1 ⟨rfl, hb1⟩
    have L1 := bstep b0 b0.size hb1
    obtain ⟨bl1, z0, z1, z2⟩ := (HBX.out.below hb1).c3
    go_wp2_with (fail)
    go_ret2
    rw [HR.out.1, HR.out.2]
    exact ⟨rfl, L1⟩
set_option maxRecDepth 100000 in
set_option maxHeartbeats 4000000 in
theorem sGroupExponent_ok (v0 : Value) (p : Pres) (w : World) (h0 : spPres.rd w v0 p) (s0 : spPres.sz p ≤ 1048576) : Calls Try.prog 48 #[v0] w (RetI (rGroupExponent p) (cGroupExponent p) w) := by
  have h0' := h0
  obtain ⟨A0, c0, A1, c1, A2, c2, rfl, ⟨hO, hW, hJ⟩, m0, -, -⟩ := pres_open h0
  have b0 : Below w.heap.size w (w.alloc (.cells #[.slice A0 p.O.length c0, .slice A1 p.W.length c1, .slice A2 p.J.length c2] 29)) := by go_grown
  have BX := Blk.new w [.slice A0 p.O.length c0, .slice A1 p.W.length c1, .slice A2 p.J.length c2] 29
  generalize hW0 : w.alloc (.cells #[.slice A0 p.O.length c0, .slice A1 p.W.length c1, .slice A2 p.J.length c2] 29) = W0 at *
  have HBX := Lib.hid BX
  obtain ⟨bl, y0, y1, y2⟩ := BX.c3
  have HI := Lib.hid (sGroup_any _ p W0 (spPres.rd_below h0' b0))
  have HPW : Hid (∀ W', Below W0.heap.size W0 W' → RdI W' A0 p.O ∧ RdW W' A1 p.W ∧ RdX W' A2 p.J) := Lib.hid fun W' hb' => by
    have hb := bstep b0 b0.size hb'
    exact ⟨hO.below' hb, hW.below' hb, hJ.below' hb⟩
  cases hk : p.con with
  | true =>
    rw [hk] at HI
    obtain ⟨V, C⟩ := Pres.con_Con hk
    have hsb := szM_bd V 0
    have HOR : Hid (∀ W', Below W0.heap.size W0 W' → Calls Try.prog 82 #[.agg #[.slice A0 p.O.length c0, .slice A1 p.W.length c1, .slice A2 p.J.length c2]] W' (fun e w' => e = .returned (.int .i64 (Num.szL (Num.tlL p.O p.W p.J 0))) ∧ Below W'.heap.size W' w')) := Lib.hid fun W' hb => by
      rw [V.lw, V.lj]
      exact sOrder_any V W' (HPW.out W' hb).1
    have HAT : Hid (∀ (W' : World) (k : Nat), Below W0.heap.size W0 W' → (k : Int) < Num.szL (Num.tlL p.O p.W p.J 0) → Calls Try.prog 83 #[.agg #[.slice A0 p.O.length c0, .slice A1 p.W.length c1, .slice A2 p.J.length c2], .int .i64 (k : Int)] W' (VecO p.O (Num.decL (Num.tlL p.O p.W p.J 0) (k : Int)) W')) := Lib.hid fun W' k hb hk1 => by
      rw [V.lw, V.lj]
      exact sAtNum_any V W' (k : Int) (HPW.out W' hb).1 (by omega) hk1
    have HPE : Hid (∀ (W' : World) (k : Nat) (B : Option Addr) (d : Nat), Below W0.heap.size W0 W' → (k : Int) < Num.szL (Num.tlL p.O p.W p.J 0) → RdI W' B (Num.decL (Num.tlL p.O p.W p.J 0) (k : Int)) → Calls Try.prog 79 #[.agg #[.slice A0 p.O.length c0, .slice A1 p.W.length c1, .slice A2 p.J.length c2], .slice B p.O.length d] W' (fun e w' => e = .returned (.int .i64 (Num.perL (Num.tlL p.O p.W p.J 0) (Num.decL (Num.tlL p.O p.W p.J 0) (k : Int)))) ∧ Below W'.heap.size W' w')) := Lib.hid fun W' k B d hb hk1 hr => by
      rw [V.lw, V.lj]
      exact sPeriod_any V C W' _ B d (HPW.out W' hb) hr (Num.decL_El (V.ok 0) (by omega) hk1).1
    have HEX : Hid (∀ m : Nat, (m : Int) ≤ Num.szL (Num.tlL p.O p.W p.J 0) → 1 ≤ Num.expN (Num.tlL p.O p.W p.J 0) m ∧ Num.expN (Num.tlL p.O p.W p.J 0) m ≤ Num.szL (Num.tlL p.O p.W p.J 0)) := Lib.hid fun m hm => ⟨(Num.expN_ok (V.ok 0) C m hm).1, Num.expN_le (V.ok 0) C hm⟩
    have HPB : Hid (∀ m : Nat, (m : Int) < Num.szL (Num.tlL p.O p.W p.J 0) → 1 ≤ Num.perL (Num.tlL p.O p.W p.J 0) (Num.decL (Num.tlL p.O p.W p.J 0) (m : Int)) ∧ Num.perL (Num.tlL p.O p.W p.J 0) (Num.decL (Num.tlL p.O p.W p.J 0) (m : Int)) ≤ Num.szL (Num.tlL p.O p.W p.J 0)) := Lib.hid fun m hm => ⟨(Num.perL_sz (V.ok 0) C (Num.decL_El (V.ok 0) (by omega) hm).1).1, Num.perL_le (V.ok 0) C (Num.decL_El (V.ok 0) (by omega) hm).1⟩
    have HKR : Hid (rGroupExponent p = (if Num.szL (Num.tlL p.O p.W p.J 0) ≤ 128 then Num.expN (Num.tlL p.O p.W p.J 0) (Num.szL (Num.tlL p.O p.W p.J 0)).toNat else 0) ∧ cGroupExponent p = (if Num.szL (Num.tlL p.O p.W p.J 0) ≤ 128 then 0 else 3)) := Lib.hid ⟨if_pos hk, if_pos hk⟩
    unfold VecO at HAT
    clear h0 h0' hO hW hJ BX m0 V C
    generalize Num.szL (Num.tlL p.O p.W p.J 0) = N at *
    have HO1 := Lib.hid fun (W' : World) (hb : Below W0.heap.size W0 W') => HOR.out W' hb
    by_cases hlim : N ≤ 128
    · have HR : Hid (rGroupExponent p = Num.expN (Num.tlL p.O p.W p.J 0) N.toNat ∧ cGroupExponent p = 0) := Lib.hid ⟨by rw [HKR.out.1, if_pos hlim], by rw [HKR.out.2, if_pos hlim]⟩
      have hnl : ¬ (128 : Int) < N := by omega
      go_enter Try.func48, Try.ntmps48
      go_wp2_with (fail)
      clear hW0
      refine HI.out.mono ?_; rintro e w1 ⟨rfl, hb1⟩
      have L1 := bstep b0 b0.size hb1
      obtain ⟨bl1, z0, z1, z2⟩ := (HBX.out.below hb1).c3
      have HO2 := Lib.hid (HOR.out w1 hb1)
      clear HI y0 y1 y2
      go_wp2_with (fail)
      refine HO2.out.mono ?_; rintro e w2 ⟨rfl, hb2⟩
      have M2 := bstep hb1 hb1.size hb2
      clear HO2 z0 z1 z2
      go_wp2_with (fail)
      go_loopw [4, 5, 6] (fun s4 s5 _ wr => ∃ m : Nat, (m : Int) ≤ N ∧ s5 = .int .i64 (m : Int) ∧ s4 = .int .i64 (Num.expN (Num.tlL p.O p.W p.J 0) m) ∧ Below W0.heap.size W0 wr) (fun _ s5 _ _ => (N - intOf s5).toNat)
      case atStart => exact ⟨0, by omega, rfl, rfl, M2⟩
      case round =>
        obtain ⟨m, hm, rfl, rfl, bel⟩ := hrel
        obtain ⟨bl1, z0, z1, z2⟩ := (HBX.out.below bel).c3
        have HO3 := Lib.hid (HOR.out wr bel)
        by_cases hlt : (m : Int) < N
        · obtain ⟨e1, e2⟩ := HEX.out m (by omega)
          obtain ⟨p1, p2⟩ := HPB.out m hlt
          obtain ⟨x1, x2⟩ := HEX.out (m + 1) (by omega)
          have hstep : Num.expN (Num.tlL p.O p.W p.J 0) (m + 1) = (Int.lcm (Num.expN (Num.tlL p.O p.W p.J 0) m) (Num.perL (Num.tlL p.O p.W p.J 0) (Num.decL (Num.tlL p.O p.W p.J 0) (m : Int))) : Nat) := rfl
          have hway := Num.lcm_way e1 p1
          rw [← hstep] at hway
          have HAT2 : Hid (∀ W', Below W0.heap.size W0 W' → _) := Lib.hid fun W' hb => HAT.out W' m hb hlt
          have HPE2 : Hid (∀ (W' : World) (B : Option Addr) (d : Nat), Below W0.heap.size W0 W' → RdI W' B (Num.decL (Num.tlL p.O p.W p.J 0) (m : Int)) → _) := Lib.hid fun W' B d hb hr => HPE.out W' m B d hb hlt hr
          generalize hxe : Num.expN (Num.tlL p.O p.W p.J 0) (m + 1) = x' at *
          have HXE := Lib.hid hxe
          clear hxe
          generalize Num.perL (Num.tlL p.O p.W p.J 0) (Num.decL (Num.tlL p.O p.W p.J 0) (m : Int)) = d at *
          generalize Num.expN (Num.tlL p.O p.W p.J 0) m = x at *
          generalize Num.decL (Num.tlL p.O p.W p.J 0) (m : Int) = zv at *
          have hg1 : (1 : Int) ≤ (Int.gcd x d : Int) := by have := Int.gcd_pos_of_ne_zero_left d (show x ≠ 0 by omega); omega
          have HGC : Hid (∀ W', Calls Try.prog 91 #[.int .i64 x, .int .i64 d] W' fun e w' => e = .returned (.int .i64 (Int.gcd x d)) ∧ W' = w') := Lib.hid fun W' => sGcd_any x d W' (by omega) (by omega) (by omega) (by omega)
          generalize (Int.gcd x d : Int) = g at *
          have hq0 : 0 ≤ x / g := Int.ediv_nonneg (by omega) (by omega)
          have hq1 : x / g ≤ x := Int.ediv_le_self g (by omega)
          have htd : x.tdiv g = x / g := Int.tdiv_eq_ediv_of_nonneg (by omega)
          have hw1 : IntKind.i64.wrap (x / g) = x / g := IntWalk.i64_in _ (by omega)
          have hw2 : IntKind.i64.wrap (x / g * d) = x' := by rw [hway]; exact IntWalk.i64_in _ (by omega)
          have hw3 : IntKind.i64.wrap ((m : Int) + 1) = ((m + 1 : Nat) : Int) := by rw [IntWalk.i64_in _ (by omega)]; omega
          have hg0 : g ≠ 0 := by omega
          clear hstep hway
          go_wp2_with (fail)
          refine HO3.out.mono ?_; rintro e w3 ⟨rfl, hb3⟩
          have M3 := bstep bel bel.size hb3
          obtain ⟨bl3, u0, u1, u2⟩ := (HBX.out.below M3).c3
          have KX : ∀ {W'}, Below w3.heap.size w3 W' → W'.cell? ⟨w.heap.size, 0, none⟩ = some (.slice A0 p.O.length c0) ∧ W'.cell? ⟨w.heap.size, 1, none⟩ = some (.slice A1 p.W.length c1) ∧ W'.cell? ⟨w.heap.size, 2, none⟩ = some (.slice A2 p.J.length c2) := fun {W'} hb => (HBX.out.below (bstep M3 M3.size hb)).c3.2
          have HA3 := Lib.hid (HAT2.out w3.drew M3.drew)
          clear HO3 z0 z1 z2 HAT2
          go_wp2_with (fail)
          go_region_held3 (fun wx => wx.cell? ⟨w.heap.size, 0, none⟩ = some (.slice A0 p.O.length c0) ∧ wx.cell? ⟨w.heap.size, 1, none⟩ = some (.slice A1 p.W.length c1) ∧ wx.cell? ⟨w.heap.size, 2, none⟩ = some (.slice A2 p.J.length c2)) (first | assumption | go_keep) (first
            | (go_at_call 79; (with_reducible refine HP6.out.mono ?_); rintro e w6 ⟨rfl, hb6⟩; have L6 := bstep L5 L5.size hb6; have SM6 := KX L6)
            | (go_at_call 83; (with_reducible refine HA3.out.mono ?_); rintro e w5 ⟨A5, d5, rfl, ow5, hb5⟩; have L5 : Below w3.heap.size w3 w5 := (Below.refl _ _).drew.trans hb5; have SM5 := KX L5; have HP6 := Lib.hid (HPE2.out w5 A5 d5 (bstep M3 M3.size L5) ow5.reads)))
          all_goals
            have M6 := bstep M3 M3.size L6
            clear HA3 u0 u1 u2 SM6
            go_wp2_with (fail)
            refine (HGC.out _).mono ?_; rintro e w7 ⟨rfl, rfl⟩
            go_wp2_with (fail)
            exact ⟨⟨m + 1, by omega, rfl, by rw [HXE.out], M6⟩, by simp [intOf]; omega⟩
        · have HMN : Hid (Num.expN (Num.tlL p.O p.W p.J 0) m = Num.expN (Num.tlL p.O p.W p.J 0) N.toNat) := Lib.hid (by rw [show N.toNat = m by omega])
          go_wp2_with (fail)
          refine HO3.out.mono ?_; rintro e w3 ⟨rfl, hb3⟩
          go_wp2_with (fail)
          go_ret2
          rw [HR.out.1, HR.out.2, ← HMN.out]
          exact ⟨rfl, bstep (bstep b0 b0.size bel) (by have := b0.size; have := bel.size; omega) hb3⟩
    · have HR : Hid (rGroupExponent p = 0 ∧ cGroupExponent p = 3) := Lib.hid ⟨by rw [HKR.out.1, if_neg hlim], by rw [HKR.out.2, if_neg hlim]⟩
      have hnl : (128 : Int) < N := by omega
      go_enter Try.func48, Try.ntmps48
      go_wp2_with (fail)
      clear hW0
      refine HI.out.mono ?_; rintro e w1 ⟨rfl, hb1⟩
      have L1 := bstep b0 b0.size hb1
      obtain ⟨bl1, z0, z1, z2⟩ := (HBX.out.below hb1).c3
      have HO2 := Lib.hid (HOR.out w1 hb1)
      go_wp2_with (fail)
      refine HO2.out.mono ?_; rintro e w2 ⟨rfl, hb2⟩
      go_wp2_with (fail)
      go_ret2
      rw [HR.out.1, HR.out.2]
      exact ⟨rfl, bstep L1 L1.size hb2⟩
  | false =>
    rw [hk] at HI
    have HR : Hid (rGroupExponent p = 0 ∧ cGroupExponent p = 1) := Lib.hid ⟨if_neg (by rw [hk]; simp), if_neg (by rw [hk]; simp)⟩
    clear h0 h0' hO hW hJ BX m0 HPW
    go_enter Try.func48, Try.ntmps48
    go_wp2_with (fail)
    clear hW0
    refine HI.out.mono ?_; rintro e w1 ⟨rfl, hb1⟩
    go_wp2_with (fail)
    go_ret2
    rw [HR.out.1, HR.out.2]
    exact ⟨rfl, bstep b0 b0.size hb1⟩
end Go.Proofs.Yteappjgdcbploaa
namespace Go.Proofs.Yteappjgdcbploaa
open Go.RowKit
set_option linter.unusedVariables false
set_option linter.unusedSimpArgs false

set_option maxRecDepth 100000 in
set_option maxHeartbeats 4000000 in
theorem fnExactGroupExponent_run (v0 : Value) (x0 : Pres) (w : World) (h0 : spPres.rd w v0 x0) :
    Calls Try.prog 13 #[v0] w fun e w' => e = .returned (.bool true) ∧ Below w.heap.size w w' := by
  obtain ⟨Aa0_0, na0_0, ca0_0, Aa0_1, na0_1, ca0_1, Aa0_2, na0_2, ca0_2, rfl, -, -, -⟩ := spPres_form h0
  have L : Below w.heap.size w (w.alloc (.cells [.slice Aa0_0 na0_0 ca0_0, .slice Aa0_1 na0_1 ca0_1, .slice Aa0_2 na0_2 ca0_2].toArray 26)) := by go_grown
  have Ba0 : Blk (w.alloc (.cells [.slice Aa0_0 na0_0 ca0_0, .slice Aa0_1 na0_1 ca0_1, .slice Aa0_2 na0_2 ca0_2].toArray 26)) (w.heap.size) [.slice Aa0_0 na0_0 ca0_0, .slice Aa0_1 na0_1 ca0_1, .slice Aa0_2 na0_2 ca0_2] 26 := by have := Blk.new w [.slice Aa0_0 na0_0 ca0_0, .slice Aa0_1 na0_1 ca0_1, .slice Aa0_2 na0_2 ca0_2] 26; simpa only [World.size_alloc] using this
  have RW0 := Lib.hid h0
  clear h0
  by_cases s0 : (spPres.sz x0 : Int) ≤ 1048576
  · have s0' : spPres.sz x0 ≤ 1048576 := by omega
    obtain ⟨ba0l, ba00, ba01, ba02⟩ := Ba0.c3
    have HC := Lib.hid (szPres_ok (.agg #[.slice Aa0_0 na0_0 ca0_0, .slice Aa0_1 na0_1 ca0_1, .slice Aa0_2 na0_2 ca0_2]) x0 (1048576) (w.alloc (.cells [.slice Aa0_0 na0_0 ca0_0, .slice Aa0_1 na0_1 ca0_1, .slice Aa0_2 na0_2 ca0_2].toArray 26)) (spPres.rd_below RW0.out L) (by omega) (by omega))
    rw [szLeft_yes (n := spPres.sz x0) (left := 1048576) (by omega)] at HC
    have g0 : 0 ≤ 1048576 - (spPres.sz x0 : Int) := by omega
    have g0' : 1048576 - (spPres.sz x0 : Int) ≤ 1048576 := by omega
    go_enter Try.func13, Try.ntmps13
    go_wp2_with (fail)
    refine HC.out.mono ?_; rintro e w1 ⟨rfl, hb⟩
    clear ba0l ba00 ba01 ba02
    clear HC
    replace Ba0 := Ba0.below hb
    replace L := bstep L L.size hb
    clear hb
    obtain ⟨ba0l, ba00, ba01, ba02⟩ := Ba0.c3
    go_wp2_with (fail)
    refine (toPres_ok (.agg #[.slice Aa0_0 na0_0 ca0_0, .slice Aa0_1 na0_1 ca0_1, .slice Aa0_2 na0_2 ca0_2]) x0 w1 (spPres.rd_below RW0.out L) s0').mono ?_; rintro e w2 ⟨up0, Sp0, rfl, owp0, hSp0, hb⟩
    clear ba0l ba00 ba01 ba02
    have Na0_p0 : ¬ Sp0 (w.heap.size) := fun g => by have := hSp0 _ g; have := Ba0.lt; omega
    have Hp0 : Hid (∀ k, Sp0 k → w.heap.size ≤ k) := Lib.hid fun k g => by have := hSp0 k g; have := L.size; omega
    replace Ba0 := Ba0.below hb
    replace L := bstep L L.size hb
    clear hb hSp0
    obtain ⟨Ap0_0, np0_0, cp0_0, Ap0_1, np0_1, cp0_1, Ap0_2, np0_2, cp0_2, rfl, -, -, -⟩ := spPres_form (spPres.own_rd owp0)
    have Op0 := Lib.hid owp0
    clear owp0
    obtain ⟨ba0l, ba00, ba01, ba02⟩ := Ba0.c3
    go_wp2_with (fail)
    refine (sGroupExponent_ok (.agg #[.slice Ap0_0 np0_0 cp0_0, .slice Ap0_1 np0_1 cp0_1, .slice Ap0_2 np0_2 cp0_2]) x0 w2 (spPres.own_rd Op0.out) s0').mono ?_; rintro e w3 ⟨rfl, hb⟩
    clear ba0l ba00 ba01 ba02
    replace Op0 := Lib.hid (spPres.own_below Op0.out hb)
    replace Ba0 := Ba0.below hb
    replace L := bstep L L.size hb
    clear hb
    obtain ⟨ba0l, ba00, ba01, ba02⟩ := Ba0.c3
    go_wp2_with (fail)
    refine (toPres_ok (.agg #[.slice Aa0_0 na0_0 ca0_0, .slice Aa0_1 na0_1 ca0_1, .slice Aa0_2 na0_2 ca0_2]) x0 w3 (spPres.rd_below RW0.out L) s0').mono ?_; rintro e w4 ⟨uq0, Sq0, rfl, owq0, hSq0, hb⟩
    clear ba0l ba00 ba01 ba02
    have Na0_q0 : ¬ Sq0 (w.heap.size) := fun g => by have := hSq0 _ g; have := Ba0.lt; omega
    have Hq0 : Hid (∀ k, Sq0 k → w.heap.size ≤ k) := Lib.hid fun k g => by have := hSq0 k g; have := L.size; omega
    replace Ba0 := Ba0.below hb
    replace L := bstep L L.size hb
    clear hb hSq0
    obtain ⟨Aq0_0, nq0_0, cq0_0, Aq0_1, nq0_1, cq0_1, Aq0_2, nq0_2, cq0_2, rfl, -, -, -⟩ := spPres_form (spPres.own_rd owq0)
    have Oq0 := Lib.hid owq0
    clear owq0
    have Bq0 := Blk.new w4 [.slice Aq0_0 nq0_0 cq0_0, .slice Aq0_1 nq0_1 cq0_1, .slice Aq0_2 nq0_2 cq0_2] 29
    have Nq0_q0 : ¬ Sq0 w4.heap.size := fun g => by have := spPres.own_lt Oq0.out g; omega
    have hbx : Below w4.heap.size w4 (w4.alloc (.cells [.slice Aq0_0 nq0_0 cq0_0, .slice Aq0_1 nq0_1 cq0_1, .slice Aq0_2 nq0_2 cq0_2].toArray 29)) := (Below.refl _ _).alloc (Nat.le_refl _) _
    replace Oq0 := Lib.hid (spPres.own_below Oq0.out hbx)
    replace Ba0 := Ba0.below hbx
    replace L := bstep L L.size hbx
    clear hbx
    obtain ⟨ba0l, ba00, ba01, ba02⟩ := Ba0.c3
    obtain ⟨bq0l, bq00, bq01, bq02⟩ := Bq0.c3
    go_wp2_with (fail)
    refine (iGroupExponent_ok (.agg #[.slice Aq0_0 nq0_0 cq0_0, .slice Aq0_1 nq0_1 cq0_1, .slice Aq0_2 nq0_2 cq0_2]) x0 (w4.alloc (.cells [.slice Aq0_0 nq0_0 cq0_0, .slice Aq0_1 nq0_1 cq0_1, .slice Aq0_2 nq0_2 cq0_2].toArray 29)) (presC_of Oq0.out) s0').mono ?_; rintro e w5 ⟨rfl, hb⟩
    clear ba0l ba00 ba01 ba02 bq0l bq00 bq01 bq02
    replace Oq0 := Lib.hid (spPres.own_below Oq0.out hb)
    replace Ba0 := Ba0.below hb
    replace Bq0 := Bq0.below hb
    replace L := bstep L L.size hb
    clear hb
    obtain ⟨ba0l, ba00, ba01, ba02⟩ := Ba0.c3
    obtain ⟨bq0l, bq00, bq01, bq02⟩ := Bq0.c3
    have HT := Lib.hid (toPres_ok (.agg #[.slice Aa0_0 na0_0 ca0_0, .slice Aa0_1 na0_1 ca0_1, .slice Aa0_2 na0_2 ca0_2]) x0 w5.drew (spPres.rd_drew (spPres.rd_below RW0.out L)) s0')
    go_wp2_with (fail)
    go_region_held3 (fun wx => wx.cell? ⟨w4.heap.size, 0, none⟩ = some (.slice Aq0_0 nq0_0 cq0_0) ∧ wx.cell? ⟨w4.heap.size, 1, none⟩ = some (.slice Aq0_1 nq0_1 cq0_1) ∧ wx.cell? ⟨w4.heap.size, 2, none⟩ = some (.slice Aq0_2 nq0_2 cq0_2) ∧ wx.cell? ⟨(w.heap.size), 0, none⟩ = some (.slice Aa0_0 na0_0 ca0_0) ∧ wx.cell? ⟨(w.heap.size), 1, none⟩ = some (.slice Aa0_1 na0_1 ca0_1) ∧ wx.cell? ⟨(w.heap.size), 2, none⟩ = some (.slice Aa0_2 na0_2 ca0_2)) (first | go_keep | assumption) (first | (go_at_call 18; refine HT.out.mono ?_; rintro e w6 ⟨ut0, St0, rfl, owt0, hSt0, hb⟩; have SM : w6.cell? ⟨w4.heap.size, 0, none⟩ = some (.slice Aq0_0 nq0_0 cq0_0) ∧ w6.cell? ⟨w4.heap.size, 1, none⟩ = some (.slice Aq0_1 nq0_1 cq0_1) ∧ w6.cell? ⟨w4.heap.size, 2, none⟩ = some (.slice Aq0_2 nq0_2 cq0_2) ∧ w6.cell? ⟨(w.heap.size), 0, none⟩ = some (.slice Aa0_0 na0_0 ca0_0) ∧ w6.cell? ⟨(w.heap.size), 1, none⟩ = some (.slice Aa0_1 na0_1 ca0_1) ∧ w6.cell? ⟨(w.heap.size), 2, none⟩ = some (.slice Aa0_2 na0_2 ca0_2) := ⟨(Blk.cell (Bq0.drew.below hb) 0 (by simp)), (Blk.cell (Bq0.drew.below hb) 1 (by simp)), (Blk.cell (Bq0.drew.below hb) 2 (by simp)), (Blk.cell (Ba0.drew.below hb) 0 (by simp)), (Blk.cell (Ba0.drew.below hb) 1 (by simp)), (Blk.cell (Ba0.drew.below hb) 2 (by simp))⟩) | (go_at_call 21; refine (eqPres_ok (.agg #[.slice Aq0_0 nq0_0 cq0_0, .slice Aq0_1 nq0_1 cq0_1, .slice Aq0_2 nq0_2 cq0_2]) _ x0 _ (spPres.rd_below (spPres.rd_drew (spPres.own_rd Oq0.out)) hb) (spPres.own_rd owt0)).mono ?_; rintro e w7 ⟨rfl, hb2⟩; have SM2 : w7.cell? ⟨w4.heap.size, 0, none⟩ = some (.slice Aq0_0 nq0_0 cq0_0) ∧ w7.cell? ⟨w4.heap.size, 1, none⟩ = some (.slice Aq0_1 nq0_1 cq0_1) ∧ w7.cell? ⟨w4.heap.size, 2, none⟩ = some (.slice Aq0_2 nq0_2 cq0_2) ∧ w7.cell? ⟨(w.heap.size), 0, none⟩ = some (.slice Aa0_0 na0_0 ca0_0) ∧ w7.cell? ⟨(w.heap.size), 1, none⟩ = some (.slice Aa0_1 na0_1 ca0_1) ∧ w7.cell? ⟨(w.heap.size), 2, none⟩ = some (.slice Aa0_2 na0_2 ca0_2) := ⟨(Blk.cell ((Bq0.drew.below hb).below hb2) 0 (by simp)), (Blk.cell ((Bq0.drew.below hb).below hb2) 1 (by simp)), (Blk.cell ((Bq0.drew.below hb).below hb2) 2 (by simp)), (Blk.cell ((Ba0.drew.below hb).below hb2) 0 (by simp)), (Blk.cell ((Ba0.drew.below hb).below hb2) 1 (by simp)), (Blk.cell ((Ba0.drew.below hb).below hb2) 2 (by simp))⟩))
    clear ba0l ba00 ba01 ba02 bq0l bq00 bq01 bq02
    have hd : Below w5.heap.size w5 w5.drew := (Below.refl _ _).drew
    replace Oq0 := Lib.hid (spPres.own_below Oq0.out hd)
    replace Ba0 := Ba0.below hd
    replace Bq0 := Bq0.below hd
    replace L := bstep L L.size hd
    replace Oq0 := Lib.hid (spPres.own_below Oq0.out hb)
    replace Ba0 := Ba0.below hb
    replace Bq0 := Bq0.below hb
    replace L := bstep L L.size hb
    replace Oq0 := Lib.hid (spPres.own_below Oq0.out hb2)
    replace Ba0 := Ba0.below hb2
    replace Bq0 := Bq0.below hb2
    replace L := bstep L L.size hb2
    clear hd hb hb2 HT SM SM2 owt0 hSt0
    obtain ⟨ba0l, ba00, ba01, ba02⟩ := Ba0.c3
    obtain ⟨bq0l, bq00, bq01, bq02⟩ := Bq0.c3
    go_wp2_with (fail)
    go_ret
    exact ⟨rfl, L⟩
  · obtain ⟨ba0l, ba00, ba01, ba02⟩ := Ba0.c3
    have HC := Lib.hid (szPres_ok (.agg #[.slice Aa0_0 na0_0 ca0_0, .slice Aa0_1 na0_1 ca0_1, .slice Aa0_2 na0_2 ca0_2]) x0 (1048576) (w.alloc (.cells [.slice Aa0_0 na0_0 ca0_0, .slice Aa0_1 na0_1 ca0_1, .slice Aa0_2 na0_2 ca0_2].toArray 26)) (spPres.rd_below RW0.out L) (by omega) (by omega))
    rw [szLeft_no (n := spPres.sz x0) (left := 1048576) (by omega)] at HC
    go_enter Try.func13, Try.ntmps13
    go_wp2_with (fail)
    refine HC.out.mono ?_; rintro e w1 ⟨rfl, hb⟩
    clear ba0l ba00 ba01 ba02
    clear HC
    replace Ba0 := Ba0.below hb
    replace L := bstep L L.size hb
    clear hb
    obtain ⟨ba0l, ba00, ba01, ba02⟩ := Ba0.c3
    go_wp2_with (fail)
    go_ret
    exact ⟨rfl, L⟩
theorem fnExactGroupExponent_walk (v0 : Value) (x0 : Pres) (w : World) (w0 : spPres.rd w v0 x0) :
    Calls Try.prog 13 #[v0] w fun e w' => e = .returned (.bool true) ∧ Below w.heap.size w w' :=
  fnExactGroupExponent_run v0 x0 w w0
end Go.Proofs.Yteappjgdcbploaa
namespace Go.Proofs.Yteappjgdcbploaa.fnExactGroupExponent
open Go.ChangeShapes Go.WideShapes Go.ChangeAt Go.RowKit
open Go.ChangeMaps (open_string shut_string)
set_option linter.unusedVariables false

theorem own : ownKnob Try.prog.godebug = none := by kernel_rfl
theorem laidOut : laidOutB Try.prog = true := by kernel_rfl

set_option maxRecDepth 100000 in
theorem lifted (os : Os) (started : os.Started) (H : Type) (enc : TypeId × Value → H) :
    ReturnsInHanded {} Try.checked os 13 .any (Rows.fnExactGroupExponentSpec.pre6 enc Try.prog Try.f13 Rows.fnExactGroupExponentRow.domain false) (Rows.fnExactGroupExponentSpec.post enc Try.prog Try.f13 false true false false) := by
  refine returnsInHanded_of_change (C := Try.checked) own started (by kernel_rfl) Try.func13
    (ChangeSpec.witness6 (enc := enc) (C := Try.checked) false ⟨#[], #[.agg #[.slice none 0 0, .slice none 0 0, .slice none 0 0]], []⟩ 8 (by kernel_rfl) (by kernel_rfl) (by kernel_rfl) (by kernel_rfl)) ?_
  intro W base args ds gs before hval0 hW hcnd _
  have hval : ∀ (j : Nat) t v, Try.f13.params[j]? = some t → args[j]? = some v → Value.okWide Try.prog W .any base t v := hval0
  have hW' := hW
  obtain ⟨p, q, hA0, hV, rfl, hfz, hnd⟩ := hW
  have hA : DataW.TrodAll enc Try.prog W 0 (fun _ => true) true Try.f13.params.toList args.toList ds p := hA0
  rw [Try.params13] at hA hval
  obtain ⟨v0, vs0, d0, ds0, p0, q0, hargs, rfl, rfl, h0, r0⟩ := trodAll_cons hA
  obtain ⟨rfl, rfl, rfl⟩ := trodAll_nil r0
  obtain rfl : args = #[v0] := by cases args; simp_all
  obtain ⟨rfl, rfl⟩ := trodVars_none hV
  have k0 := h0
  have lt0 : ∀ x ∈ p0, x.block < W.heap.size := by obtain ⟨m, hm⟩ := k0; exact DataW.trod_lt m _ _ _ hm
  obtain ⟨z0, w0⟩ := open_pres (hval 0 26 v0 rfl rfl) h0
  clear hA0 hval0
  refine (fnExactGroupExponent_walk v0 z0 W w0).mono fun e W' ⟨he, bel⟩ => ?_
  subst he
  exact ⟨_, rfl, _, _, _, [], _, [], hW', trodAll_mk1 (shut_bool Try.underlying4 _), (trodAll_cons_mk (Below.trod laidOut (by kernel_rfl) (of_decide_eq_true (by kernel_rfl)) k0 bel lt0) trodAll_mk0), rfl, bel.frame _, fun h => by cases h⟩

theorem over : Rows.fnExactGroupExponentRow.holds Try.pinned (OpenSpec.ofChange Rows.fnExactGroupExponentSpec) :=
  OpenClaim.holds_of_wide 13 Try.f13 rfl rfl rfl rfl rfl rfl rfl ⟨rfl, rfl, rfl, rfl, rfl⟩ rfl rfl rfl rfl rfl (by kernel_rfl) Try.func13 joined
    (of_decide_eq_true (by kernel_rfl)) (by unfold Func.isWrapper; first | (rw [if_pos (by decide +kernel)]; kernel_rfl) | (rw [if_neg (by decide +kernel)]; exact ⟨rfl, rfl⟩))
    (fun os started H enc _ => lifted os started H enc)

theorem proved : Rows.FnExactGroupExponentSaid := over
#print axioms proved
end Go.Proofs.Yteappjgdcbploaa.fnExactGroupExponent
