/- Two chains of orders, one behind the other: slices.Grow and slices.Concat. -/
import Derived.Test.YtpplojbcjgiabaaL09C
import Derived.Test.YtpplojbcjgiabaaKB
namespace Go.Proofs.Ytpplojbcjgiabaa
open Go.RowKit
set_option linter.unusedVariables false
set_option linter.unusedSimpArgs false

set_option maxRecDepth 100000 in
set_option maxHeartbeats 1000000 in
theorem growCC_any (n : Nat) (w : World) (hn2 : n ≤ 1000) :
    Calls Try.prog 69 #[.slice none 0 0, .int .i64 n] w fun e w' => ∃ v, e = .returned v ∧ w'.ownsRow w.heap.size 80 1 v 0 [] ∧ Below w.heap.size w w' := by
  obtain ⟨i0, hi, hz0, hz1, hz2⟩ := info_parts infoCy
  rcases Nat.eq_zero_or_pos n with rfl | hn
  · go_enter Try.func69, Try.ntmps69
    go_wp2_with (fail)
    go_ret
    exact ⟨_, rfl, World.ownsRow_nil _ _ _ _, Below.refl _ _⟩
  · have hold : (Builtin.firstCells i0.size 0 (.slice none 0 0)).run Try.prog w.drew = .ok ([] : List Value).toArray w.drew := run_firstCells_none w.drew _ 0 0 0
    have hrz : ∀ ty, (Builtin.append_ #[77, 3] ty #[.slice none 0 0, .int .i64 (n : Int)]).run Try.prog w =
        .ok (.slice (some ⟨w.heap.size, 0, none⟩) (0 + n) (grownCap w (0 + n) 0 80)) (w.drew.alloc (.cells (([] : List Value).toArray ++ Builtin.zeroCells (Value.int .i64 0).cells n ++ Builtin.zeroCells (Value.int .i64 0).cells (grownCap w (0 + n) 0 80 - (0 + n))) 80)) := fun ty =>
      Lib.run_append_grow_zeros w 77 3 ty 80 i0 _ .i64 .i64 Try.underlying77 Try.underlying3 hi hz0 none 0 0 [] hold n hn (by omega) (by omega) (by omega) (by rw [hz2]; omega) (by rw [hz2]; exact growslice_fits (by omega) (by omega))
    have hGn : 0 + n ≤ grownCap w (0 + n) 0 80 := grownCap_ge w _ _ _
    have hGm : grownCap w (0 + n) 0 80 ≤ maxLen := grownCap_le_maxLen w (0 + n) 0 80 (by unfold maxLen; omega)
    generalize grownCap w (0 + n) 0 80 = G at *
    obtain ⟨CLS, hCLS⟩ : ∃ R : Array Value, R = ([] : List Value).toArray ++ Builtin.zeroCells (Value.int .i64 0).cells n ++ Builtin.zeroCells (Value.int .i64 0).cells (G - (0 + n)) := ⟨_, rfl⟩
    rw [← hCLS] at hrz
    have hRl : CLS.size = G * 1 := by
      rw [hCLS]
      simp [Builtin.zeroCells, Value.cells]
      omega
    have own0 : (w.drew.alloc (.cells CLS 80)).ownsRow w.heap.size 80 1 (.slice (some ⟨w.heap.size, 0, none⟩) 0 G) 0 [] :=
      ⟨by simp, .inr ⟨w.heap.size, G, CLS, rfl, Nat.le_refl _, by show (w.heap.push _)[w.heap.size]? = _; simp, Nat.zero_le _, hGm, hRl, by simp⟩⟩
    have hb0 : Below w.heap.size w (w.drew.alloc (.cells CLS 80)) := (Below.refl _ _).drew.alloc (Nat.le_refl _) _
    have HO := Lib.hid own0
    have n1 : (0 : Int) < (n : Int) := by omega
    have n2 : ¬ (G = 0) := by omega
    clear hCLS hRl own0 hold
    go_enter Try.func69, Try.ntmps69
    go_wp2_with (at_builtin; refine Lib.wpList_append_run _ rfl _ _ _ _ rfl _ _ rfl rfl _ _ (hrz _) ?_)
    go_ret
    exact ⟨_, rfl, HO.out, hb0⟩
set_option maxRecDepth 100000 in
set_option maxHeartbeats 1000000 in
theorem concatCC_any (v1 v2 : Value) (x y : List Int) (vb : Nat) (w : World) (hx : spI.rd w v1 x) (hy : spI.rd w v2 y) (hl : x.length + y.length ≤ 1000) (h0 : w.cell? ⟨vb, 0, none⟩ = some v1) (h1 : w.cell? ⟨vb, 1, none⟩ = some v2) :
    Calls Try.prog 52 #[.slice (some ⟨vb, 0, none⟩) 2 2] w fun e w' => ∃ v, e = .returned v ∧ OwnC w' w.heap.size v (x ++ y) ∧ Below w.heap.size w w' := by
  obtain ⟨i0, hi, hz0, hz1, hz2⟩ := info_parts infoCy
  obtain ⟨A1, c1, rfl, -, hA1⟩ := hx
  obtain ⟨A2, c2, rfl, -, hA2⟩ := hy
  have hvb : vb < w.heap.size := block_lt_of_cell h0
  have HX := Lib.hid hA1
  have HY := Lib.hid hA2
  have one : ∀ (zs : List Int), ∀ u ∈ zs.map (Value.int .i64), u.oneCell' = true := fun zs u hu => by
    obtain ⟨z, _, rfl⟩ := List.mem_map.mp hu
    rfl
  have HONE := Lib.hid one
  have HG : Hid (Calls Try.prog 69 #[.slice none 0 0, .int .i64 ((x.length : Int) + (y.length : Int))] w fun e w' => ∃ v, e = .returned v ∧ w'.ownsRow w.heap.size 80 1 v 0 [] ∧ Below w.heap.size w w') := Lib.hid (by have h := growCC_any (x.length + y.length) w (by omega); rwa [Int.natCast_add] at h)
  clear hA1 hA2 one
  go_enter Try.func52, Try.ntmps52
  go_wp2_with (fail)
  go_loop [3, 11] (fun s3 s11 => ∃ j : Nat, s11 = .int .i64 j ∧ ((j = 0 ∧ s3 = .int .i64 0) ∨ (j = 1 ∧ s3 = .int .i64 (x.length : Int)) ∨ (j = 2 ∧ s3 = .int .i64 ((x.length : Int) + (y.length : Int))))) (fun _ s11 => 2 - (intOf s11).toNat)
  case atStart => exact ⟨0, rfl, .inl ⟨rfl, rfl⟩⟩
  case round =>
    obtain ⟨j, rfl, hj⟩ := hrel
    rcases hj with ⟨rfl, rfl⟩ | ⟨rfl, rfl⟩ | ⟨rfl, rfl⟩
    · have l0 : ¬ ((x.length : Int) < 0) := by omega
      go_wp2_with (fail)
      exact ⟨⟨1, by go_num, .inr (.inl ⟨rfl, by go_num⟩)⟩, by simp [intOf]⟩
    · have l0 : ¬ ((x.length : Int) + (y.length : Int) < 0) := by omega
      go_wp2_with (fail)
      exact ⟨⟨2, by go_num, .inr (.inr ⟨rfl, rfl⟩)⟩, by simp [intOf]⟩
    · go_wp2_with (fail)
      refine HG.out.mono ?_; rintro e w1 ⟨v9, rfl, ow9, hb9⟩
      have HO9 : Hid (OwnC w1 w.heap.size v9 []) := Lib.hid ow9
      clear ow9 HG
      go_wp2_with (fail)
      go_loopw [6, 27] (fun s6 s27 wr => ∃ j : Nat, s27 = .int .i64 j ∧ ((j = 0 ∧ Hid (OwnC wr w.heap.size s6 [])) ∨ (j = 1 ∧ Hid (OwnC wr w.heap.size s6 x)) ∨ (j = 2 ∧ Hid (OwnC wr w.heap.size s6 (x ++ y)))) ∧ Below w.heap.size w wr) (fun _ s27 _ => 2 - (intOf s27).toNat)
      case atStart => exact ⟨0, rfl, .inl ⟨rfl, HO9⟩, hb9⟩
      case round =>
        obtain ⟨j, rfl, hj, bel⟩ := hrel
        clear HO9
        have c0 : wr.cell? ⟨vb, 0, none⟩ = some (.slice A1 x.length c1) := by rw [bel.cell hvb]; exact h0
        have c1' : wr.cell? ⟨vb, 1, none⟩ = some (.slice A2 y.length c2) := by rw [bel.cell hvb]; exact h1
        rcases hj with ⟨rfl, HOW⟩ | ⟨rfl, HOW⟩ | ⟨rfl, HOW⟩
        · have HB := Lib.hid HOW.out.base_le
          go_wp2_with (first | (at_builtin; refine wpList_append_listN _ rfl _ _ 77 rfl w.heap.size 80 i0 (.int .i64 0) 1 8 Try.underlying77 hi hz0 hz1 hz2 rfl (by decide) _ 0 [] rfl HOW.out A1 x.length c1 (x.map (Value.int .i64)) (by simp) rfl (HX.out.below' bel).cells (HONE.out x) (by unfold maxLen; omega) (by omega) bel.size ?_; intro v' w' own' gr' at'; replace gr' : wr.grownBy w' u6.ownBlock := gr'))
          have HO' : Hid (OwnC w' w.heap.size v' x) := Lib.hid (by unfold OwnC; simpa using own')
          have L := bel.grown gr' bel.size HB.out
          clear own' gr' at' c0 c1'
          go_wp2_with (fail)
          exact ⟨⟨1, by go_num, .inr (.inl ⟨rfl, HO'⟩), L⟩, by simp [intOf]⟩
        · have HB := Lib.hid HOW.out.base_le
          go_wp2_with (first | (at_builtin; refine wpList_append_listN _ rfl _ _ 77 rfl w.heap.size 80 i0 (.int .i64 0) 1 8 Try.underlying77 hi hz0 hz1 hz2 rfl (by decide) _ x.length (x.map (Value.int .i64)) rfl HOW.out A2 y.length c2 (y.map (Value.int .i64)) (by simp) rfl (HY.out.below' bel).cells (HONE.out y) (by unfold maxLen; omega) (by omega) bel.size ?_; intro v' w' own' gr' at'; replace gr' : wr.grownBy w' u6.ownBlock := gr'))
          have HO' : Hid (OwnC w' w.heap.size v' (x ++ y)) := Lib.hid (by unfold OwnC; simpa using own')
          have L := bel.grown gr' bel.size HB.out
          clear own' gr' at' c0 c1'
          go_wp2_with (fail)
          exact ⟨⟨2, by go_num, .inr (.inr ⟨rfl, HO'⟩), L⟩, by simp [intOf]⟩
        · clear c0 c1'
          go_wp2_with (fail)
          go_ret
          exact ⟨_, rfl, HOW.out, bel⟩
end Go.Proofs.Ytpplojbcjgiabaa
