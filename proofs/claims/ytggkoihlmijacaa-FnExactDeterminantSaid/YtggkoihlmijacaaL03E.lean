/- Two rows of residues, one behind the other. -/
import Derived.Test.YtggkoihlmijacaaL02O
import Derived.Test.YtggkoihlmijacaaL02Q
import Derived.Test.YtggkoihlmijacaaKB
import Derived.Lib.AppendZerosOnto
import Derived.Lib.AppendZeros
namespace Go.Proofs.Ytggkoihlmijacaa
open Go.RowKit
set_option linter.unusedVariables false
set_option linter.unusedSimpArgs false

theorem resCells_app (p : Int) (x y : List Int) : resCells p (x ++ y) = resCells p x ++ resCells p y := by simp [resCells]
set_option maxRecDepth 100000 in
set_option maxHeartbeats 1000000 in
theorem grow_any (n : Nat) (w : World) (hn2 : n ≤ 1000) :
    Calls Try.prog 114 #[.slice none 0 0, .int .i64 n] w fun e w' => ∃ v, e = .returned v ∧ w'.ownsRow w.heap.size 60 2 v 0 [] ∧ Below w.heap.size w w' := by
  obtain ⟨i0, hi, hz0, hz1, hz2⟩ := info_parts infoR
  rcases Nat.eq_zero_or_pos n with rfl | hn
  · go_enter Try.func114, Try.ntmps114
    go_wp2_with (fail)
    go_ret
    exact ⟨_, rfl, World.ownsRow_nil _ _ _ _, Below.refl _ _⟩
  · have hold : (Builtin.firstCells i0.size 0 (.slice none 0 0)).run Try.prog w.drew = .ok ([] : List Value).toArray w.drew := run_firstCells_none w.drew _ 0 0 0
    have hrz : ∀ ty, (Builtin.append_ #[56, 3] ty #[.slice none 0 0, .int .i64 (n : Int)]).run Try.prog w =
        .ok (.slice (some ⟨w.heap.size, 0, none⟩) (0 + n) (grownCap w (0 + n) 0 60)) (w.drew.alloc (.cells (([] : List Value).toArray ++ Builtin.zeroCells (Value.agg #[.int .i64 0, .int .i64 0]).cells n ++ Builtin.zeroCells (Value.agg #[.int .i64 0, .int .i64 0]).cells (grownCap w (0 + n) 0 60 - (0 + n))) 60)) := fun ty =>
      Lib.run_append_grow_zeros w 56 3 ty 60 i0 _ .i64 .i64 Try.underlying56 Try.underlying3 hi hz0 none 0 0 [] hold n hn (by omega) (by omega) (by omega) (by rw [hz2]; omega) (by rw [hz2]; exact growslice_fits (by omega) (by omega))
    have hGn : 0 + n ≤ grownCap w (0 + n) 0 60 := grownCap_ge w _ _ _
    have hGm : grownCap w (0 + n) 0 60 ≤ maxLen := grownCap_le_maxLen w (0 + n) 0 60 (by unfold maxLen; omega)
    generalize grownCap w (0 + n) 0 60 = G at *
    obtain ⟨CLS, hCLS⟩ : ∃ R : Array Value, R = ([] : List Value).toArray ++ Builtin.zeroCells (Value.agg #[.int .i64 0, .int .i64 0]).cells n ++ Builtin.zeroCells (Value.agg #[.int .i64 0, .int .i64 0]).cells (G - (0 + n)) := ⟨_, rfl⟩
    rw [← hCLS] at hrz
    have hRl : CLS.size = G * 2 := by
      rw [hCLS]
      simp [Builtin.zeroCells, Value.cells]
      omega
    have own0 : (w.drew.alloc (.cells CLS 60)).ownsRow w.heap.size 60 2 (.slice (some ⟨w.heap.size, 0, none⟩) 0 G) 0 [] :=
      ⟨by simp, .inr ⟨w.heap.size, G, CLS, rfl, Nat.le_refl _, by show (w.heap.push _)[w.heap.size]? = _; simp, Nat.zero_le _, hGm, hRl, by simp⟩⟩
    have hb0 : Below w.heap.size w (w.drew.alloc (.cells CLS 60)) := (Below.refl _ _).drew.alloc (Nat.le_refl _) _
    have HO := Lib.hid own0
    have n1 : (0 : Int) < (n : Int) := by omega
    have n2 : ¬ (G = 0) := by omega
    clear hCLS hRl own0 hold
    go_enter Try.func114, Try.ntmps114
    go_wp2_with (at_builtin; refine Lib.wpList_append_run _ rfl _ _ _ _ rfl _ _ rfl rfl _ _ (hrz _) ?_)
    go_ret
    exact ⟨_, rfl, HO.out, hb0⟩
set_option maxRecDepth 100000 in
set_option maxHeartbeats 1000000 in
theorem concat_any (p : Int) (v1 v2 : Value) (x y : List Int) (vb : Nat) (w : World) (hx : (spR p).rd w v1 x) (hy : (spR p).rd w v2 y) (hl : x.length + y.length ≤ 1000) (h0 : w.cell? ⟨vb, 0, none⟩ = some v1) (h1 : w.cell? ⟨vb, 1, none⟩ = some v2) :
    Calls Try.prog 82 #[.slice (some ⟨vb, 0, none⟩) 2 2] w (Made (spR p) (x ++ y) w) := by
  obtain ⟨i0, hi, hz0, hz1, hz2⟩ := info_parts infoR
  obtain ⟨A1, c1, rfl, -⟩ := spR_form hx
  obtain ⟨A2, c2, rfl, -⟩ := spR_form hy
  have hvb : vb < w.heap.size := block_lt_of_cell h0
  have HX := Lib.hid hx
  have HY := Lib.hid hy
  have HG : Hid (Calls Try.prog 114 #[.slice none 0 0, .int .i64 ((x.length : Int) + (y.length : Int))] w fun e w' => ∃ v, e = .returned v ∧ w'.ownsRow w.heap.size 60 2 v 0 [] ∧ Below w.heap.size w w') := Lib.hid (by have h := grow_any (x.length + y.length) w (by omega); rwa [Int.natCast_add] at h)
  clear hx hy
  go_enter Try.func82, Try.ntmps82
  go_wp2_with (fail)
  go_loop [3, 11] (fun s3 s11 => ∃ j : Nat, s11 = .int .i64 j ∧ ((j = 0 ∧ s3 = .int .i64 0) ∨ (j = 1 ∧ s3 = .int .i64 (x.length : Int)) ∨ (j = 2 ∧ s3 = .int .i64 ((x.length : Int) + (y.length : Int))))) (fun _ s11 => 2 - (intOf s11).toNat)
  case atStart => exact ⟨0, rfl, .inl ⟨rfl, rfl⟩⟩
  case round =>
    obtain ⟨j, rfl, hj⟩ := hrel
    rcases hj with ⟨rfl, rfl⟩ | ⟨rfl, rfl⟩ | ⟨rfl, rfl⟩
    · have l0 : ¬ ((x.length : Int) < 0) := by omega
      go_wp2_with (fail)
      exact ⟨⟨1, by go_num, .inr (.inl ⟨rfl, by go_num⟩)⟩, by simp [intOf]⟩
    · have l0 : ¬ ((x.length : Int) + (y.length : Int) < 0) := by omega
      go_wp2_with (fail)
      exact ⟨⟨2, by go_num, .inr (.inr ⟨rfl, rfl⟩)⟩, by simp [intOf]⟩
    · go_wp2_with (fail)
      refine HG.out.mono ?_; rintro e w1 ⟨v9, rfl, ow9, hb9⟩
      have HO9 := Lib.hid ow9
      clear ow9 HG
      go_wp2_with (fail)
      go_loopw [6, 27] (fun s6 s27 wr => ∃ j : Nat, s27 = .int .i64 j ∧ ((j = 0 ∧ Hid (wr.ownsRow w.heap.size 60 2 s6 0 [])) ∨ (j = 1 ∧ Hid (wr.ownsRow w.heap.size 60 2 s6 x.length (resCells p x))) ∨ (j = 2 ∧ Hid (wr.ownsRow w.heap.size 60 2 s6 (x.length + y.length) (resCells p (x ++ y))))) ∧ Below w.heap.size w wr) (fun _ s27 _ => 2 - (intOf s27).toNat)
      case atStart => exact ⟨0, rfl, .inl ⟨rfl, HO9⟩, hb9⟩
      case round =>
        obtain ⟨j, rfl, hj, bel⟩ := hrel
        clear HO9
        have c0 : wr.cell? ⟨vb, 0, none⟩ = some (.slice A1 x.length c1) := by rw [bel.cell hvb]; exact h0
        have c1' : wr.cell? ⟨vb, 1, none⟩ = some (.slice A2 y.length c2) := by rw [bel.cell hvb]; exact h1
        rcases hj with ⟨rfl, HOW⟩ | ⟨rfl, HOW⟩ | ⟨rfl, HOW⟩
        · have HC := Lib.hid (cells_rd ((spR p).rd_below HX.out bel))
          go_wp2_with (first | (at_builtin; refine wpList_append_listN _ rfl _ _ 56 rfl w.heap.size 60 i0 (.agg #[.int .i64 0, .int .i64 0]) 2 16 Try.underlying56 hi hz0 hz1 hz2 rfl (by decide) _ 0 [] rfl HOW.out A1 x.length c1 (resCells p x) (resCells_length p x) rfl HC.out (oneCell_res p x) (by unfold maxLen; omega) (by omega) bel.size ?_; intro v' w' own' gr' at'))
          have HO' : Hid (w'.ownsRow w.heap.size 60 2 v' x.length (resCells p x)) := Lib.hid (by simpa using own')
          have L := bel.grown gr' bel.size (fun k hk => (World.ownsRow.lt HOW.out k hk).1)
          clear own' gr' at' c0 c1'
          go_wp2_with (fail)
          exact ⟨⟨1, by go_num, .inr (.inl ⟨rfl, HO'⟩), L⟩, by simp [intOf]⟩
        · have HC := Lib.hid (cells_rd ((spR p).rd_below HY.out bel))
          go_wp2_with (first | (at_builtin; refine wpList_append_listN _ rfl _ _ 56 rfl w.heap.size 60 i0 (.agg #[.int .i64 0, .int .i64 0]) 2 16 Try.underlying56 hi hz0 hz1 hz2 rfl (by decide) _ x.length (resCells p x) rfl HOW.out A2 y.length c2 (resCells p y) (resCells_length p y) rfl HC.out (oneCell_res p y) (by unfold maxLen; omega) (by omega) bel.size ?_; intro v' w' own' gr' at'))
          have HO' : Hid (w'.ownsRow w.heap.size 60 2 v' (x.length + y.length) (resCells p (x ++ y))) := Lib.hid (by rw [resCells_app]; exact own')
          have L := bel.grown gr' bel.size (fun k hk => (World.ownsRow.lt HOW.out k hk).1)
          clear own' gr' at' c0 c1'
          go_wp2_with (fail)
          exact ⟨⟨2, by go_num, .inr (.inr ⟨rfl, HO'⟩), L⟩, by simp [intOf]⟩
        · clear c0 c1'
          go_wp2_with (fail)
          go_ret
          exact Made.rowR (base := w.heap.size) rfl (by rw [List.length_append]; exact HOW.out) (Nat.le_refl _) bel
end Go.Proofs.Ytggkoihlmijacaa
