/- Two lists of indices, one behind the other; a list of indices without one of them. -/
import Derived.Test.YtihdidbikeaafaaInx
import Derived.Test.YtihdidbikeaafaaKB
import Derived.Lib.AppendZerosOnto
import Derived.Lib.AppendZeros
namespace Go.Proofs.Ytihdidbikeaafaa
open Go.RowKit
set_option linter.unusedVariables false
set_option linter.unusedSimpArgs false

set_option maxRecDepth 100000 in
set_option maxHeartbeats 1000000 in
theorem growN_any (n : Nat) (w : World) (hn2 : n ≤ 1000) :
    Calls Try.prog 122 #[.slice none 0 0, .int .i64 n] w fun e w' => ∃ v, e = .returned v ∧ w'.ownsRow w.heap.size 3 1 v 0 [] ∧ Below w.heap.size w w' := by
  obtain ⟨i0, hi, hz0, hz1, hz2⟩ := info_parts infoN
  rcases Nat.eq_zero_or_pos n with rfl | hn
  · go_enter Try.func122, Try.ntmps122
    go_wp2_with (fail)
    go_ret
    exact ⟨_, rfl, World.ownsRow_nil _ _ _ _, Below.refl _ _⟩
  · have hold : (Builtin.firstCells i0.size 0 (.slice none 0 0)).run Try.prog w.drew = .ok ([] : List Value).toArray w.drew := run_firstCells_none w.drew _ 0 0 0
    have hrz : ∀ ty, (Builtin.append_ #[111, 3] ty #[.slice none 0 0, .int .i64 (n : Int)]).run Try.prog w =
        .ok (.slice (some ⟨w.heap.size, 0, none⟩) (0 + n) (grownCap w (0 + n) 0 3)) (w.drew.alloc (.cells (([] : List Value).toArray ++ Builtin.zeroCells (Value.int .i64 0).cells n ++ Builtin.zeroCells (Value.int .i64 0).cells (grownCap w (0 + n) 0 3 - (0 + n))) 3)) := fun ty =>
      Lib.run_append_grow_zeros w 111 3 ty 3 i0 _ .i64 .i64 Try.underlying111 Try.underlying3 hi hz0 none 0 0 [] hold n hn (by omega) (by omega) (by omega) (by rw [hz2]; omega) (by rw [hz2]; exact growslice_fits (by omega) (by omega))
    have hGn : 0 + n ≤ grownCap w (0 + n) 0 3 := grownCap_ge w _ _ _
    have hGm : grownCap w (0 + n) 0 3 ≤ maxLen := grownCap_le_maxLen w (0 + n) 0 3 (by unfold maxLen; omega)
    generalize grownCap w (0 + n) 0 3 = G at *
    obtain ⟨CLS, hCLS⟩ : ∃ R : Array Value, R = ([] : List Value).toArray ++ Builtin.zeroCells (Value.int .i64 0).cells n ++ Builtin.zeroCells (Value.int .i64 0).cells (G - (0 + n)) := ⟨_, rfl⟩
    rw [← hCLS] at hrz
    have hRl : CLS.size = G * 1 := by
      rw [hCLS]
      simp [Builtin.zeroCells, Value.cells]
      omega
    have own0 : (w.drew.alloc (.cells CLS 3)).ownsRow w.heap.size 3 1 (.slice (some ⟨w.heap.size, 0, none⟩) 0 G) 0 [] :=
      ⟨by simp, .inr ⟨w.heap.size, G, CLS, rfl, Nat.le_refl _, by show (w.heap.push _)[w.heap.size]? = _; simp, Nat.zero_le _, hGm, hRl, by simp⟩⟩
    have hb0 : Below w.heap.size w (w.drew.alloc (.cells CLS 3)) := (Below.refl _ _).drew.alloc (Nat.le_refl _) _
    have HO := Lib.hid own0
    have n1 : (0 : Int) < (n : Int) := by omega
    have n2 : ¬ (G = 0) := by omega
    clear hCLS hRl own0 hold
    go_enter Try.func122, Try.ntmps122
    go_wp2_with (at_builtin; refine Lib.wpList_append_run _ rfl _ _ _ _ rfl _ _ rfl rfl _ _ (hrz _) ?_)
    go_ret
    exact ⟨_, rfl, HO.out, hb0⟩
/-- A slice has no more numbers than there is room for. -/
def CapOk (v : Value) : Prop := ∀ A n c, v = .slice A n c → n ≤ c
theorem capOk_own {w : World} {base E n size : Nat} {v : Value} {vs : List Value} (h : w.ownsRow base E size v n vs) : CapOk v := by
  rintro A m c rfl
  rcases h.2 with ⟨hv, h0⟩ | ⟨g, cap, cur, hv, hb, hg, r⟩
  · simp only [Value.slice.injEq] at hv
    omega
  · simp only [Value.slice.injEq] at hv
    omega
theorem OwnN.append {w : World} {base : Nat} {v : Value} {xs ys : List Int} (h : w.ownsRow base 3 1 v (xs.length + ys.length) (xs.map (Value.int .i64) ++ ys.map (Value.int .i64))) : OwnN w base v (xs ++ ys) := by
  unfold OwnN
  simpa using h
set_option maxRecDepth 100000 in
set_option maxHeartbeats 1000000 in
theorem concatN_any (v1 v2 : Value) (x y : List Int) (vb : Nat) (w : World) (hx : spI.rd w v1 x) (hy : spI.rd w v2 y) (hl : x.length + y.length ≤ 1000) (h0 : w.cell? ⟨vb, 0, none⟩ = some v1) (h1 : w.cell? ⟨vb, 1, none⟩ = some v2) :
    Calls Try.prog 118 #[.slice (some ⟨vb, 0, none⟩) 2 2] w fun e w' => ∃ v, e = .returned v ∧ spI.rd w' v (x ++ y) ∧ CapOk v ∧ Below w.heap.size w w' := by
  obtain ⟨i0, hi, hz0, hz1, hz2⟩ := info_parts infoN
  obtain ⟨A1, c1, rfl, -, hx0⟩ := hx
  obtain ⟨A2, c2, rfl, -, hy0⟩ := hy
  have hvb : vb < w.heap.size := block_lt_of_cell h0
  have HX := Lib.hid hx0
  have HY := Lib.hid hy0
  have HG : Hid (Calls Try.prog 122 #[.slice none 0 0, .int .i64 ((x.length : Int) + (y.length : Int))] w fun e w' => ∃ v, e = .returned v ∧ w'.ownsRow w.heap.size 3 1 v 0 [] ∧ Below w.heap.size w w') := Lib.hid (by have h := growN_any (x.length + y.length) w (by omega); rwa [Int.natCast_add] at h)
  clear hx0 hy0
  go_enter Try.func118, Try.ntmps118
  go_wp2_with (fail)
  go_loop [3, 11] (fun s3 s11 => ∃ j : Nat, s11 = .int .i64 j ∧ ((j = 0 ∧ s3 = .int .i64 0) ∨ (j = 1 ∧ s3 = .int .i64 (x.length : Int)) ∨ (j = 2 ∧ s3 = .int .i64 ((x.length : Int) + (y.length : Int))))) (fun _ s11 => 2 - (intOf s11).toNat)
  case atStart => exact ⟨0, rfl, .inl ⟨rfl, rfl⟩⟩
  case round =>
    obtain ⟨j, rfl, hj⟩ := hrel
    rcases hj with ⟨rfl, rfl⟩ | ⟨rfl, rfl⟩ | ⟨rfl, rfl⟩
    · have l0 : ¬ ((x.length : Int) < 0) := by omega
      go_wp2_with (fail)
      exact ⟨⟨1, by go_num, .inr (.inl ⟨rfl, by go_num⟩)⟩, by simp [intOf]⟩
    · have l0 : ¬ ((x.length : Int) + (y.length : Int) < 0) := by omega
      go_wp2_with (fail)
      exact ⟨⟨2, by go_num, .inr (.inr ⟨rfl, rfl⟩)⟩, by simp [intOf]⟩
    · go_wp2_with (fail)
      refine HG.out.mono ?_; rintro e w1 ⟨v9, rfl, ow9, hb9⟩
      have HO9 : Hid (OwnN w1 w.heap.size v9 ([] : List Int)) := Lib.hid ow9
      clear ow9 HG
      go_wp2_with (fail)
      go_loopw [6, 27] (fun s6 s27 wr => ∃ j : Nat, s27 = .int .i64 j ∧ ((j = 0 ∧ Hid (OwnN wr w.heap.size s6 ([] : List Int))) ∨ (j = 1 ∧ Hid (OwnN wr w.heap.size s6 x)) ∨ (j = 2 ∧ Hid (OwnN wr w.heap.size s6 (x ++ y)))) ∧ Below w.heap.size w wr) (fun _ s27 _ => 2 - (intOf s27).toNat)
      case atStart => exact ⟨0, rfl, .inl ⟨rfl, HO9⟩, hb9⟩
      case round =>
        obtain ⟨j, rfl, hj, bel⟩ := hrel
        clear HO9
        have c0 : wr.cell? ⟨vb, 0, none⟩ = some (.slice A1 x.length c1) := by rw [bel.cell hvb]; exact h0
        have c1' : wr.cell? ⟨vb, 1, none⟩ = some (.slice A2 y.length c2) := by rw [bel.cell hvb]; exact h1
        rcases hj with ⟨rfl, HOW⟩ | ⟨rfl, HOW⟩ | ⟨rfl, HOW⟩
        · have HR := Lib.hid (HX.out.below' bel).cells
          have HB := Lib.hid HOW.out.base_le
          have bws := bel.size
          go_wp2_with (first | (at_builtin; refine wpList_append_list _ rfl _ _ 111 rfl w.heap.size 3 i0 (.int .i64 0) 8 Try.underlying111 hi hz0 hz1 hz2 rfl _ 0 [] rfl HOW.out A1 x.length c1 (x.map (Value.int .i64)) (by simp) rfl HR.out (oneCell_ints x) (by unfold maxLen; omega) (by omega) bws ?_; intro v' w' own' gr' at'))
          have HO' : Hid (OwnN w' w.heap.size v' x) := Lib.hid (by simpa [OwnN] using own')
          have L : Below w.heap.size w w' := bel.grown gr' bws HB.out
          clear own' gr' at' c0 c1' HR HB HOW
          go_wp2_with (fail)
          exact ⟨⟨1, by go_num, .inr (.inl ⟨rfl, HO'⟩), L⟩, by simp [intOf]⟩
        · have HR := Lib.hid (HY.out.below' bel).cells
          have HB := Lib.hid HOW.out.base_le
          have bws := bel.size
          go_wp2_with (first | (at_builtin; refine wpList_append_list _ rfl _ _ 111 rfl w.heap.size 3 i0 (.int .i64 0) 8 Try.underlying111 hi hz0 hz1 hz2 rfl _ x.length (x.map (Value.int .i64)) rfl HOW.out A2 y.length c2 (y.map (Value.int .i64)) (by simp) rfl HR.out (oneCell_ints y) (by unfold maxLen; omega) (by omega) bws ?_; intro v' w' own' gr' at'))
          have HO' : Hid (OwnN w' w.heap.size v' (x ++ y)) := Lib.hid (OwnN.append own')
          have L : Below w.heap.size w w' := bel.grown gr' bws HB.out
          clear own' gr' at' c0 c1' HR HB HOW
          go_wp2_with (fail)
          exact ⟨⟨2, by go_num, .inr (.inr ⟨rfl, HO'⟩), L⟩, by simp [intOf]⟩
        · clear c0 c1'
          have HRD := Lib.hid HOW.out.rd
          have HCO := Lib.hid (capOk_own HOW.out)
          clear HOW
          go_wp2_with (fail)
          go_ret
          exact ⟨_, rfl, HRD.out, HCO.out, bel⟩
theorem Num.ints_length (l : List Nat) : (Num.ints l).length = l.length := by simp [Num.ints]
theorem Num.ints_get {l : List Nat} {i : Nat} : (Num.ints l).getD i 0 = ((l.getD i 0 : Nat) : Int) := by
  unfold Num.ints
  by_cases h : i < l.length
  · simp [h]
  · simp [h]
theorem Num.ints_erase (l : List Nat) (i : Nat) : (Num.ints l).take i ++ (Num.ints l).drop (i + 1) = Num.ints (l.eraseIdx i) := by
  unfold Num.ints
  rw [List.eraseIdx_eq_take_drop_succ]
  simp
/-- The first numbers of a list that is read, and those behind them. -/
theorem spI_take {w : World} {A : Option Addr} {n c : Nat} {x : List Int} {k : Nat} (h : spI.rd w (.slice A n c) x) (hk : k ≤ x.length) : spI.rd w (.slice A k c) (x.take k) := by
  obtain ⟨A', c', e, hm, h3⟩ := h
  simp only [Value.slice.injEq] at e
  obtain ⟨rfl, rfl, rfl⟩ := e
  have el : (x.take k).length = k := by rw [List.length_take]; omega
  refine ⟨A, c, by rw [el], by rw [el]; omega, fun j hj => ?_⟩
  rw [el] at hj
  have := h3 j (by omega)
  have e : (x.take k).getD j 0 = x.getD j 0 := by simp [List.getD_eq_getElem?_getD, List.getElem?_take, hj]
  rw [e]; exact this
theorem spI_drop {w : World} {g o n c c' : Nat} {x : List Int} {k : Nat} (h : spI.rd w (.slice (some ⟨g, o, none⟩) n c) x) (hk : k ≤ x.length) : spI.rd w (.slice (some ⟨g, o + k, none⟩) (n - k) c') (x.drop k) := by
  obtain ⟨A', c'', e, hm, h3⟩ := h
  simp only [Value.slice.injEq] at e
  obtain ⟨rfl, rfl, rfl⟩ := e
  have el : (x.drop k).length = x.length - k := by simp
  refine ⟨_, _, by rw [el], by rw [el]; omega, fun j hj => ?_⟩
  rw [el] at hj
  obtain ⟨g', o', e1, e2, e3⟩ := h3 (k + j) (by omega)
  simp only [Option.some.injEq, Addr.mk.injEq, and_true] at e1
  obtain ⟨rfl, rfl⟩ := e1
  have e : (x.drop k).getD j 0 = x.getD (k + j) 0 := by simp [List.getD_eq_getElem?_getD]
  exact ⟨g, o + k, rfl, e2, by rw [e, Nat.add_assoc]; exact e3⟩
end Go.Proofs.Ytihdidbikeaafaa
