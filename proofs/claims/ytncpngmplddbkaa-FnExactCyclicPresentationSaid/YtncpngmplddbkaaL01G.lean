/- Contracts of Factorize, of the program and of the model: two lists in memory of the call's own. -/
import Derived.Test.YtncpngmplddbkaaNumF
import Derived.Test.YtncpngmplddbkaaL01D
import Derived.Test.YtncpngmplddbkaaKB
import Derived.Maps.AppendAt
namespace Go.Proofs.Ytncpngmplddbkaa
open Go.RowKit
set_option linter.unusedVariables false
set_option linter.unusedSimpArgs false

/-- Behind an append to each of two rows. -/
theorem two_rows {w wr w1 w2 : World} {v1 v2 v1' v2' : Value} {ps es : List Int} {x y : Int} {t t' : TypeId} (own1 : OwnI wr w.heap.size v1 ps) (own2 : OwnI wr w.heap.size v2 es) (hap : ApartV v1 v2) (hbel : Below w.heap.size w wr) (hz : w.heap.size ≤ wr.heap.size)
    (hown1 : w1.ownsRow w.heap.size 2 1 v1' (ps.length + 1) (ps.map (Value.int .i64) ++ [.int .i64 x])) (hg1 : (wr.alloc (.cells #[.int .i64 x] t)).grownBy w1 v1.ownBlock) (ha1 : v1'.ownBlock = v1.ownBlock ∨ v1'.ownBlock = some (wr.alloc (.cells #[.int .i64 x] t)).heap.size)
    (hown2 : w2.ownsRow w.heap.size 2 1 v2' (es.length + 1) (es.map (Value.int .i64) ++ [.int .i64 y])) (hg2 : (w1.alloc (.cells #[.int .i64 y] t')).grownBy w2 v2.ownBlock) (ha2 : v2'.ownBlock = v2.ownBlock ∨ v2'.ownBlock = some (w1.alloc (.cells #[.int .i64 y] t')).heap.size) :
    OwnI w2 w.heap.size v1' (ps ++ [x]) ∧ OwnI w2 w.heap.size v2' (es ++ [y]) ∧ ApartV v1' v2' ∧ Below w.heap.size w w2 := by
  have lt1 := World.ownsRow.lt own1
  have lt2 := World.ownsRow.lt own2
  have lt1' := World.ownsRow.lt hown1
  have z1 := hg1.size
  simp only [World.size_alloc] at z1 ha1 ha2
  -- the first row's new block is not the second row's
  have n12 : v1'.ownBlock = none ∨ v1'.ownBlock ≠ v2.ownBlock := by
    rcases ha1 with h | h
    · rw [h]; exact hap
    · refine .inr ?_
      rw [h]
      intro e
      have := (lt2 _ e.symm).2
      omega
  refine ⟨?_, OwnI.snoc hown2, ?_, ?_⟩
  · exact ((OwnI.snoc hown1).alloc _).kept hg2 n12
  · rcases ha2 with h | h
    · unfold ApartV; rw [h]; exact n12
    · refine .inr ?_
      rw [h]
      intro e
      have := (lt1' _ e).2
      omega
  · exact ((((hbel.alloc hz _).grown hg1 (by go_size) (fun k hk => (lt1 k hk).1)).alloc (by go_size) _).grown hg2 (by go_size) (fun k hk => (lt2 k hk).1))

set_option maxHeartbeats 1000000 in
theorem factorize_ok (n : Int) (w : World) (hn1 : 1 ≤ n) (hn2 : n ≤ 1000000) :
    Calls Try.prog 66 #[.int .i64 n] w fun e w' => ∃ v1 v2, e = .returned (.tuple #[v1, v2, .int .i64 0]) ∧ OwnI w' w.heap.size v1 (Num.facP 2 n) ∧ OwnI w' w.heap.size v2 (Num.facE 2 n) ∧ ApartV v1 v2 ∧ Below w.heap.size w w' := by
  obtain ⟨i0, hi, hz0, hz1, hz2⟩ := info_parts infoI
  go_enter Try.func66, Try.ntmps66
  go_wp2_with (first | (go_at_call 77; refine (isNumber_yes _ _ hn1 hn2).mono ?_; rintro e w' ⟨rfl, rfl⟩))
  go_loopw [0, 5, 6, 7] (fun s0 s5 s6 s7 wr => ∃ (c d : Int) (ps es : List Int), s0 = .int .i64 c ∧ s7 = .int .i64 d ∧ Num.FacInv n d c ps es ∧ OwnI wr w.heap.size s5 ps ∧ OwnI wr w.heap.size s6 es ∧ ApartV s5 s6 ∧ Below w.heap.size w wr) (fun s0 _ _ s7 _ => (intOf s0).toNat * 2000000 + (1000001 - intOf s7).toNat)
  case atStart => exact ⟨n, 2, [], [], rfl, rfl, Num.facInv_start hn1, World.ownsRow_nil _ _ _ _, World.ownsRow_nil _ _ _ _, .inl rfl, Below.refl _ _⟩
  case round =>
    obtain ⟨c, d, ps, es, rfl, rfl, hinv, own1, own2, hap, hbel⟩ := hrel
    obtain ⟨d1, d2, c1, c2, l1, l2⟩ := Num.facInv_bd hinv
    obtain ⟨q1, q2⟩ := Num.sq_fits d1 d2
    have l3 : es.length ≤ n.toNat := by omega
    have Z := hbel.size
    by_cases hc : c = 1
    · subst hc
      obtain ⟨e1, e2⟩ := Num.facInv_end hinv
      have E1 := Lib.hid e1
      have E2 := Lib.hid e2
      clear e1 e2 hinv l2
      go_wp2
      go_ret3
      exact ⟨_, _, rfl, by rw [← E1.out]; exact own1, by rw [← E2.out]; exact own2, hap, hbel⟩
    · have hc' : 1 < c := by omega
      clear l2
      by_cases hd : d * d ≤ c
      · have hb := Num.sq_big d1 hd
        have hd' : ¬ (c < d * d) := by omega
        have hv := Num.vr_bd (p := d) d1 c1
        by_cases hm : c % d = 0
        · have hs := Num.facInv_div hn2 hinv hd hm
          have hp := Num.ve_pos d1 c1 hm
          clear hm hinv
          go_wp2_with (first | (go_at_call 78; refine (removePrime_any _ _ _ d1 (by omega) c1 (by omega)).mono ?_; rintro e w' ⟨rfl, rfl⟩) | (at_builtin; refine wpList_append_own_at _ rfl (.tmp 31) (.tmp 33) 22 rfl w.heap.size 2 i0 (.int .i64 0) 1 8 Try.underlying22 hi hz0 hz1 hz2 rfl (by decide) u5 _ _ rfl (own1.alloc _) ⟨_, 0, none⟩ 1 1 [.int .i64 d] rfl rfl (cell_one_new _ _ _) (by simp [Value.oneCell']) (by unfold maxLen; omega) (by omega) (by go_size) ?_; intro v1 w1 hown1 hgrow1 _ hat1; have hk2 := (own2.alloc (Obj.cells #[.int .i64 d] 2)).kept hgrow1 hap.symm; have Z1 := hgrow1.size) | (at_builtin; refine wpList_append_own_at _ rfl (.tmp 35) (.tmp 37) 22 rfl w.heap.size 2 i0 (.int .i64 0) 1 8 Try.underlying22 hi hz0 hz1 hz2 rfl (by decide) u6 _ _ rfl (hk2.alloc _) ⟨_, 0, none⟩ 1 1 [.int .i64 (Num.ve d c)] rfl rfl (cell_one_new _ _ _) (by simp [Value.oneCell']) (by unfold maxLen; omega) (by omega) (by simp only [World.size_alloc] at Z1 ⊢; omega) ?_; intro v2 w2 hown2 hgrow2 _ hat2))
          obtain ⟨a1, a2, a3, a4⟩ := two_rows own1 own2 hap hbel Z hown1 hgrow1 hat1 hown2 hgrow2 hat2
          exact ⟨⟨_, _, _, _, rfl, rfl, hs, a1, a2, a3, a4⟩, by simp [intOf]; omega⟩
        · have hs := Num.facInv_skip hn2 hinv hd hm
          obtain ⟨x1, x2⟩ := Num.v_stop c1 d1 hm
          have X1 := Lib.hid x1
          have X2 := Lib.hid x2
          clear hm hinv x1 x2
          go_wp2_with (first | (go_at_call 78; refine (removePrime_any _ _ _ d1 (by omega) c1 (by omega)).mono ?_; rw [X1.out, X2.out]; rintro e w' ⟨rfl, rfl⟩))
          exact ⟨⟨_, _, _, _, rfl, rfl, hs, own1, own2, hap, hbel⟩, by simp [intOf]; omega⟩
      · have hd' : c < d * d := by omega
        have hs := Num.facInv_last hn2 hinv hd' hc'
        obtain ⟨x1, x2⟩ := Num.v_self hc'
        have X1 := Lib.hid x1
        have X2 := Lib.hid x2
        clear hinv x1 x2 hd
        go_wp2_with (first | (go_at_call 78; refine (removePrime_any _ _ _ (by omega) (by omega) c1 (by omega)).mono ?_; rw [X1.out, X2.out]; rintro e w' ⟨rfl, rfl⟩) | (at_builtin; refine wpList_append_own_at _ rfl (.tmp 31) (.tmp 33) 22 rfl w.heap.size 2 i0 (.int .i64 0) 1 8 Try.underlying22 hi hz0 hz1 hz2 rfl (by decide) u5 _ _ rfl (own1.alloc _) ⟨_, 0, none⟩ 1 1 [.int .i64 c] rfl rfl (cell_one_new _ _ _) (by simp [Value.oneCell']) (by unfold maxLen; omega) (by omega) (by go_size) ?_; intro v1 w1 hown1 hgrow1 _ hat1; have hk2 := (own2.alloc (Obj.cells #[.int .i64 c] 2)).kept hgrow1 hap.symm; have Z1 := hgrow1.size) | (at_builtin; refine wpList_append_own_at _ rfl (.tmp 35) (.tmp 37) 22 rfl w.heap.size 2 i0 (.int .i64 0) 1 8 Try.underlying22 hi hz0 hz1 hz2 rfl (by decide) u6 _ _ rfl (hk2.alloc _) ⟨_, 0, none⟩ 1 1 [.int .i64 1] rfl rfl (cell_one_new _ _ _) (by simp [Value.oneCell']) (by unfold maxLen; omega) (by omega) (by simp only [World.size_alloc] at Z1 ⊢; omega) ?_; intro v2 w2 hown2 hgrow2 _ hat2))
        obtain ⟨a1, a2, a3, a4⟩ := two_rows own1 own2 hap hbel Z hown1 hgrow1 hat1 hown2 hgrow2 hat2
        exact ⟨⟨_, _, _, _, rfl, rfl, hs, a1, a2, a3, a4⟩, by simp [intOf]; omega⟩

/-- What both leave, the slices written out. -/
def FacPost (w : World) (P E : List Int) (e : Ending) (w' : World) : Prop :=
  ∃ A1 c1 A2 c2, e = .returned (.tuple #[.slice A1 P.length c1, .slice A2 E.length c2, .int .i64 0]) ∧ OwnI w' w.heap.size (.slice A1 P.length c1) P ∧ OwnI w' w.heap.size (.slice A2 E.length c2) E ∧ ApartV (.slice A1 P.length c1) (.slice A2 E.length c2) ∧ Below w.heap.size w w'
theorem FacPost.of {w w' : World} {P E : List Int} {e : Ending} (h : ∃ v1 v2, e = .returned (.tuple #[v1, v2, .int .i64 0]) ∧ OwnI w' w.heap.size v1 P ∧ OwnI w' w.heap.size v2 E ∧ ApartV v1 v2 ∧ Below w.heap.size w w') : FacPost w P E e w' := by
  obtain ⟨v1, v2, rfl, h1, h2, h3, h4⟩ := h
  obtain ⟨A1, c1, rfl⟩ := h1.form
  obtain ⟨A2, c2, rfl⟩ := h2.form
  exact ⟨A1, c1, A2, c2, rfl, h1, h2, h3, h4⟩
theorem factorize_bad (n : Int) (w : World) (hn : n < 1 ∨ 1000000 < n) :
    Calls Try.prog 66 #[.int .i64 n] w fun e w' => e = .returned (.tuple #[.slice none 0 0, .slice none 0 0, .int .i64 2]) ∧ w = w' := by
  go_enter Try.func66, Try.ntmps66
  go_wp2_with (go_at_call 77; refine (isNumber_no _ _ hn).mono ?_; rintro e w' ⟨rfl, rfl⟩)
  go_ret3
  exact ⟨rfl, rfl⟩
end Go.Proofs.Ytncpngmplddbkaa
