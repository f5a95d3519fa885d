/- Contracts of Factorize, of the program and of the model: two lists in memory of the call's own. -/
import Derived.Test.YtkgiffmnhpbpiaaNumF
import Derived.Test.YtkgiffmnhpbpiaaL01D
import Derived.Test.YtkgiffmnhpbpiaaSl
import Derived.Maps.AppendAt
namespace Go.Proofs.Ytkgiffmnhpbpiaa
open Go.RowKit
set_option linter.unusedVariables false
set_option linter.unusedSimpArgs false

theorem infoI : (Try.prog.info? 2).map (fun i => (i.zero, i.size, i.bytes)) = some (some (.int .i64 0), 1, 8) := by kernel_rfl

/-- A list of numbers in memory of the call's own. -/
def OwnI (w : World) (base : Nat) (v : Value) (xs : List Int) : Prop := w.ownsRow base 2 1 v xs.length (xs.map (Value.int .i64))
/-- Two rows do not share their block. -/
def ApartV (v1 v2 : Value) : Prop := v1.ownBlock = none ∨ v1.ownBlock ≠ v2.ownBlock
theorem ApartV.symm {v1 v2 : Value} (h : ApartV v1 v2) : ApartV v2 v1 := by
  rcases h with h | h
  · cases h2 : v2.ownBlock with
    | none => exact .inl h2
    | some k => exact .inr (by rw [h]; simp [h2])
  · exact .inr (Ne.symm h)
theorem OwnI.alloc {w : World} {base : Nat} {v : Value} {xs : List Int} (h : OwnI w base v xs) (o : Obj) : OwnI (w.alloc o) base v xs := World.ownsRow.alloc h o
theorem OwnI.drewN {w : World} {base : Nat} {v : Value} {xs : List Int} (h : OwnI w base v xs) (n : Nat) : OwnI (w.drewN n) base v xs := h
theorem OwnI.kept {w w' : World} {base : Nat} {v : Value} {xs : List Int} {row : Option Nat} (h : OwnI w base v xs) (hg : w.grownBy w' row) (hne : v.ownBlock = none ∨ v.ownBlock ≠ row) : OwnI w' base v xs := World.ownsRow.kept h hg hne
theorem OwnI.snoc {w : World} {base : Nat} {v : Value} {xs : List Int} {x : Int} (h : w.ownsRow base 2 1 v (xs.length + 1) (xs.map (Value.int .i64) ++ [.int .i64 x])) : OwnI w base v (xs ++ [x]) := by
  unfold OwnI
  simpa using h
theorem OwnI.base_le {w : World} {base : Nat} {v : Value} {xs : List Int} (h : OwnI w base v xs) : ∀ k, v.ownBlock = some k → base ≤ k := fun k hk => (World.ownsRow.lt h k hk).1

theorem OwnI.below {w w' : World} {base : Nat} {v : Value} {xs : List Int} (h : OwnI w base v xs) (hb : Below w.heap.size w w') : OwnI w' base v xs := by
  refine World.ownsRow.kept (row := none) h ⟨hb.os, hb.tape, hb.output, hb.size, fun k hk _ => hb.block k hk⟩ ?_
  cases hv : v.ownBlock with
  | none => exact .inl rfl
  | some k => exact .inr (by simp)
theorem OwnI.form {w : World} {base : Nat} {v : Value} {xs : List Int} (h : OwnI w base v xs) : ∃ A cap, v = .slice A xs.length cap := by
  rcases h.2 with ⟨rfl, h0⟩ | ⟨g, cap, cur, rfl, _⟩
  · rw [h0]; exact ⟨_, _, rfl⟩
  · exact ⟨_, _, rfl⟩
theorem OwnI.reads {w : World} {base : Nat} {A : Option Addr} {n cap : Nat} {xs : List Int} (h : OwnI w base (.slice A n cap) xs) : RdI w A xs := by
  obtain ⟨A', cap', e⟩ := h.form
  simp only [Value.slice.injEq] at e
  obtain ⟨rfl, rfl, rfl⟩ := e
  exact RdI.own h
/-- A row from a later base on lies apart from an elder row. -/
theorem OwnI.apart {w : World} {base : Nat} {v v' : Value} {xs : List Int} (h : OwnI w base v xs) (hlt : ∀ k, v'.ownBlock = some k → k < base) : ApartV v v' := by
  cases hv : v.ownBlock with
  | none => exact .inl hv
  | some k =>
    refine .inr ?_
    rw [hv]
    intro e
    have := hlt k e.symm
    have := (World.ownsRow.lt h k hv).1
    omega

/-- Behind an append to each of two rows. -/
theorem two_rows {w wr w1 w2 : World} {v1 v2 v1' v2' : Value} {ps es : List Int} {x y : Int} {t t' : TypeId} (own1 : OwnI wr w.heap.size v1 ps) (own2 : OwnI wr w.heap.size v2 es) (hap : ApartV v1 v2) (hbel : Below w.heap.size w wr) (hz : w.heap.size ≤ wr.heap.size)
    (hown1 : w1.ownsRow w.heap.size 2 1 v1' (ps.length + 1) (ps.map (Value.int .i64) ++ [.int .i64 x])) (hg1 : (wr.alloc (.cells #[.int .i64 x] t)).grownBy w1 v1.ownBlock) (ha1 : v1'.ownBlock = v1.ownBlock ∨ v1'.ownBlock = some (wr.alloc (.cells #[.int .i64 x] t)).heap.size)
    (hown2 : w2.ownsRow w.heap.size 2 1 v2' (es.length + 1) (es.map (Value.int .i64) ++ [.int .i64 y])) (hg2 : (w1.alloc (.cells #[.int .i64 y] t')).grownBy w2 v2.ownBlock) (ha2 : v2'.ownBlock = v2.ownBlock ∨ v2'.ownBlock = some (w1.alloc (.cells #[.int .i64 y] t')).heap.size) :
    OwnI w2 w.heap.size v1' (ps ++ [x]) ∧ OwnI w2 w.heap.size v2' (es ++ [y]) ∧ ApartV v1' v2' ∧ Below w.heap.size w w2 := by
  have lt1 := World.ownsRow.lt own1
  have lt2 := World.ownsRow.lt own2
  have lt1' := World.ownsRow.lt hown1
  have z1 := hg1.size
  simp only [World.size_alloc] at z1 ha1 ha2
  -- the first row's new block is not the second row's
  have n12 : v1'.ownBlock = none ∨ v1'.ownBlock ≠ v2.ownBlock := by
    rcases ha1 with h | h
    · rw [h]; exact hap
    · refine .inr ?_
      rw [h]
      intro e
      have := (lt2 _ e.symm).2
      omega
  refine ⟨?_, OwnI.snoc hown2, ?_, ?_⟩
  · exact ((OwnI.snoc hown1).alloc _).kept hg2 n12
  · rcases ha2 with h | h
    · unfold ApartV; rw [h]; exact n12
    · refine .inr ?_
      rw [h]
      intro e
      have := (lt1' _ e).2
      omega
  · exact ((((hbel.alloc hz _).grown hg1 (by go_size) (fun k hk => (lt1 k hk).1)).alloc (by go_size) _).grown hg2 (by go_size) (fun k hk => (lt2 k hk).1))

set_option maxHeartbeats 1000000 in
theorem factorize_ok (n : Int) (w : World) (hn1 : 1 ≤ n) (hn2 : n ≤ 1000000) :
    Calls Try.prog 15 #[.int .i64 n] w fun e w' => ∃ v1 v2, e = .returned (.tuple #[v1, v2, .int .i64 0]) ∧ OwnI w' w.heap.size v1 (Num.facP 2 n) ∧ OwnI w' w.heap.size v2 (Num.facE 2 n) ∧ ApartV v1 v2 ∧ Below w.heap.size w w' := by
  obtain ⟨i0, hi, hz0, hz1, hz2⟩ := info_parts infoI
  go_enter Try.func15, Try.ntmps15
  go_wp2_with (first | (go_at_call 40; refine (isNumber_yes _ _ hn1 hn2).mono ?_; rintro e w' ⟨rfl, rfl⟩))
  go_loopw [0, 5, 6, 7] (fun s0 s5 s6 s7 wr => ∃ (c d : Int) (ps es : List Int), s0 = .int .i64 c ∧ s7 = .int .i64 d ∧ Num.FacInv n d c ps es ∧ OwnI wr w.heap.size s5 ps ∧ OwnI wr w.heap.size s6 es ∧ ApartV s5 s6 ∧ Below w.heap.size w wr) (fun s0 _ _ s7 _ => (intOf s0).toNat * 2000000 + (1000001 - intOf s7).toNat)
  case atStart => exact ⟨n, 2, [], [], rfl, rfl, Num.facInv_start hn1, World.ownsRow_nil _ _ _ _, World.ownsRow_nil _ _ _ _, .inl rfl, Below.refl _ _⟩
  case round =>
    obtain ⟨c, d, ps, es, rfl, rfl, hinv, own1, own2, hap, hbel⟩ := hrel
    obtain ⟨d1, d2, c1, c2, l1, l2⟩ := Num.facInv_bd hinv
    obtain ⟨q1, q2⟩ := Num.sq_fits d1 d2
    have l3 : es.length ≤ n.toNat := by omega
    have Z := hbel.size
    by_cases hc : c = 1
    · subst hc
      obtain ⟨e1, e2⟩ := Num.facInv_end hinv
      have E1 := Lib.hid e1
      have E2 := Lib.hid e2
      clear e1 e2 hinv l2
      go_wp2
      go_ret3
      exact ⟨_, _, rfl, by rw [← E1.out]; exact own1, by rw [← E2.out]; exact own2, hap, hbel⟩
    · have hc' : 1 < c := by omega
      clear l2
      by_cases hd : d * d ≤ c
      · have hb := Num.sq_big d1 hd
        have hd' : ¬ (c < d * d) := by omega
        have hv := Num.vr_bd (p := d) d1 c1
        by_cases hm : c % d = 0
        · have hs := Num.facInv_div hn2 hinv hd hm
          have hp := Num.ve_pos d1 c1 hm
          clear hm hinv
          go_wp2_with (first | (go_at_call 41; refine (removePrime_any _ _ _ d1 (by omega) c1 (by omega)).mono ?_; rintro e w' ⟨rfl, rfl⟩) | (at_builtin; refine wpList_append_own_at _ rfl (.tmp 31) (.tmp 33) 25 rfl w.heap.size 2 i0 (.int .i64 0) 1 8 Try.underlying25 hi hz0 hz1 hz2 rfl (by decide) u5 _ _ rfl (own1.alloc _) ⟨_, 0, none⟩ 1 1 [.int .i64 d] rfl rfl (cell_one_new _ _ _) (by simp [Value.oneCell']) (by unfold maxLen; omega) (by omega) (by go_size) ?_; intro v1 w1 hown1 hgrow1 _ hat1; have hk2 := (own2.alloc (Obj.cells #[.int .i64 d] 2)).kept hgrow1 hap.symm; have Z1 := hgrow1.size) | (at_builtin; refine wpList_append_own_at _ rfl (.tmp 35) (.tmp 37) 25 rfl w.heap.size 2 i0 (.int .i64 0) 1 8 Try.underlying25 hi hz0 hz1 hz2 rfl (by decide) u6 _ _ rfl (hk2.alloc _) ⟨_, 0, none⟩ 1 1 [.int .i64 (Num.ve d c)] rfl rfl (cell_one_new _ _ _) (by simp [Value.oneCell']) (by unfold maxLen; omega) (by omega) (by simp only [World.size_alloc] at Z1 ⊢; omega) ?_; intro v2 w2 hown2 hgrow2 _ hat2))
          obtain ⟨a1, a2, a3, a4⟩ := two_rows own1 own2 hap hbel Z hown1 hgrow1 hat1 hown2 hgrow2 hat2
          exact ⟨⟨_, _, _, _, rfl, rfl, hs, a1, a2, a3, a4⟩, by simp [intOf]; omega⟩
        · have hs := Num.facInv_skip hn2 hinv hd hm
          obtain ⟨x1, x2⟩ := Num.v_stop c1 d1 hm
          have X1 := Lib.hid x1
          have X2 := Lib.hid x2
          clear hm hinv x1 x2
          go_wp2_with (first | (go_at_call 41; refine (removePrime_any _ _ _ d1 (by omega) c1 (by omega)).mono ?_; rw [X1.out, X2.out]; rintro e w' ⟨rfl, rfl⟩))
          exact ⟨⟨_, _, _, _, rfl, rfl, hs, own1, own2, hap, hbel⟩, by simp [intOf]; omega⟩
      · have hd' : c < d * d := by omega
        have hs := Num.facInv_last hn2 hinv hd' hc'
        obtain ⟨x1, x2⟩ := Num.v_self hc'
        have X1 := Lib.hid x1
        have X2 := Lib.hid x2
        clear hinv x1 x2 hd
        go_wp2_with (first | (go_at_call 41; refine (removePrime_any _ _ _ (by omega) (by omega) c1 (by omega)).mono ?_; rw [X1.out, X2.out]; rintro e w' ⟨rfl, rfl⟩) | (at_builtin; refine wpList_append_own_at _ rfl (.tmp 31) (.tmp 33) 25 rfl w.heap.size 2 i0 (.int .i64 0) 1 8 Try.underlying25 hi hz0 hz1 hz2 rfl (by decide) u5 _ _ rfl (own1.alloc _) ⟨_, 0, none⟩ 1 1 [.int .i64 c] rfl rfl (cell_one_new _ _ _) (by simp [Value.oneCell']) (by unfold maxLen; omega) (by omega) (by go_size) ?_; intro v1 w1 hown1 hgrow1 _ hat1; have hk2 := (own2.alloc (Obj.cells #[.int .i64 c] 2)).kept hgrow1 hap.symm; have Z1 := hgrow1.size) | (at_builtin; refine wpList_append_own_at _ rfl (.tmp 35) (.tmp 37) 25 rfl w.heap.size 2 i0 (.int .i64 0) 1 8 Try.underlying25 hi hz0 hz1 hz2 rfl (by decide) u6 _ _ rfl (hk2.alloc _) ⟨_, 0, none⟩ 1 1 [.int .i64 1] rfl rfl (cell_one_new _ _ _) (by simp [Value.oneCell']) (by unfold maxLen; omega) (by omega) (by simp only [World.size_alloc] at Z1 ⊢; omega) ?_; intro v2 w2 hown2 hgrow2 _ hat2))
        obtain ⟨a1, a2, a3, a4⟩ := two_rows own1 own2 hap hbel Z hown1 hgrow1 hat1 hown2 hgrow2 hat2
        exact ⟨⟨_, _, _, _, rfl, rfl, hs, a1, a2, a3, a4⟩, by simp [intOf]; omega⟩

/-- What both leave, the slices written out. -/
def FacPost (w : World) (P E : List Int) (e : Ending) (w' : World) : Prop :=
  ∃ A1 c1 A2 c2, e = .returned (.tuple #[.slice A1 P.length c1, .slice A2 E.length c2, .int .i64 0]) ∧ OwnI w' w.heap.size (.slice A1 P.length c1) P ∧ OwnI w' w.heap.size (.slice A2 E.length c2) E ∧ ApartV (.slice A1 P.length c1) (.slice A2 E.length c2) ∧ Below w.heap.size w w'
theorem FacPost.of {w w' : World} {P E : List Int} {e : Ending} (h : ∃ v1 v2, e = .returned (.tuple #[v1, v2, .int .i64 0]) ∧ OwnI w' w.heap.size v1 P ∧ OwnI w' w.heap.size v2 E ∧ ApartV v1 v2 ∧ Below w.heap.size w w') : FacPost w P E e w' := by
  obtain ⟨v1, v2, rfl, h1, h2, h3, h4⟩ := h
  obtain ⟨A1, c1, rfl⟩ := h1.form
  obtain ⟨A2, c2, rfl⟩ := h2.form
  exact ⟨A1, c1, A2, c2, rfl, h1, h2, h3, h4⟩
theorem factorize_bad (n : Int) (w : World) (hn : n < 1 ∨ 1000000 < n) :
    Calls Try.prog 15 #[.int .i64 n] w fun e w' => e = .returned (.tuple #[.slice none 0 0, .slice none 0 0, .int .i64 2]) ∧ w = w' := by
  go_enter Try.func15, Try.ntmps15
  go_wp2_with (go_at_call 40; refine (isNumber_no _ _ hn).mono ?_; rintro e w' ⟨rfl, rfl⟩)
  go_ret3
  exact ⟨rfl, rfl⟩
theorem sFactorize_bad (n : Int) (w : World) (hn : n < 1 ∨ 1000000 < n) :
    Calls Try.prog 16 #[.int .i64 n] w fun e w' => e = .returned (.tuple #[.slice none 0 0, .slice none 0 0, .int .i64 2]) ∧ w = w' := by
  go_enter Try.func16, Try.ntmps16
  go_wp2_with (go_at_call 42; refine (sIn_no _ _ _ _ hn).mono ?_; rintro e w' ⟨rfl, rfl⟩)
  go_ret3
  exact ⟨rfl, rfl⟩

set_option maxHeartbeats 1000000 in
theorem sFactorize_ok (n : Int) (w : World) (hn1 : 1 ≤ n) (hn2 : n ≤ 1000000) :
    Calls Try.prog 16 #[.int .i64 n] w fun e w' => ∃ v1 v2, e = .returned (.tuple #[v1, v2, .int .i64 0]) ∧ OwnI w' w.heap.size v1 (Num.facP 2 n) ∧ OwnI w' w.heap.size v2 (Num.facE 2 n) ∧ ApartV v1 v2 ∧ Below w.heap.size w w' := by
  obtain ⟨i0, hi, hz0, hz1, hz2⟩ := info_parts infoI
  go_enter Try.func16, Try.ntmps16
  go_wp2_with (first | (go_at_call 42; refine (sIn_yes _ _ _ _ hn1 hn2).mono ?_; rintro e w' ⟨rfl, rfl⟩))
  go_loopw [0, 5, 6, 7] (fun s0 s5 s6 s7 wr => ∃ (c d : Int) (ps es : List Int), s0 = .int .i64 c ∧ s7 = .int .i64 d ∧ Num.FacInv n d c ps es ∧ OwnI wr w.heap.size s5 ps ∧ OwnI wr w.heap.size s6 es ∧ ApartV s5 s6 ∧ Below w.heap.size w wr) (fun s0 _ _ s7 _ => (intOf s0).toNat * 2000000 + (1000001 - intOf s7).toNat)
  case atStart =>
    have o1 : OwnI (w.alloc (.cells #[] 2)) w.heap.size (.slice (some ⟨w.heap.size, 0, none⟩) 0 0) [] := World.ownsRow_lit w #[] 0 (Nat.le_refl _) (by unfold maxLen; omega) rfl
    have o2 : OwnI ((w.alloc (.cells #[] 2)).alloc (.cells #[] 2)) w.heap.size (.slice (some ⟨(w.alloc (.cells #[] 2)).heap.size, 0, none⟩) 0 0) [] := World.ownsRow_lit _ #[] 0 (by go_size) (by unfold maxLen; omega) rfl
    rw [World.size_alloc] at o2
    exact ⟨n, 2, [], [], rfl, rfl, Num.facInv_start hn1, o1.alloc _, o2, .inr (by simp [Value.ownBlock]), by go_grown⟩
  case round =>
    obtain ⟨c, d, ps, es, rfl, rfl, hinv, own1, own2, hap, hbel⟩ := hrel
    obtain ⟨d1, d2, c1, c2, l1, l2⟩ := Num.facInv_bd hinv
    obtain ⟨q1, q2⟩ := Num.sq_fits d1 d2
    have l3 : es.length ≤ n.toNat := by omega
    have Z := hbel.size
    clear l2
    by_cases hd : d * d ≤ c
    · have hb := Num.sq_big d1 hd
      have hv := Num.vr_bd (p := d) d1 c1
      go_wp2_with (fail)
      go_loop [0, 8] (fun s0 s8 => ∃ x k : Int, s0 = .int .i64 x ∧ s8 = .int .i64 k ∧ Num.RemInv d c x k) (fun s0 _ => (intOf s0).toNat)
      case atStart => exact ⟨c, 0, rfl, rfl, Num.remInv_start c1⟩
      case round =>
        obtain ⟨x, k, rfl, rfl, hi2⟩ := hrel
        obtain ⟨b1, b2, b3⟩ := Num.remInv_bd hi2
        by_cases hx : x % d = 0
        · obtain ⟨y1, y2, y3⟩ := Num.div_bd d1 b1 hx
          have hs := Num.remInv_step d1 hi2 hx
          have ht : (x % d == 0) = true := by simp [hx]
          clear y3 hx
          go_wp2
          exact ⟨⟨_, _, rfl, rfl, hs⟩, by simp [intOf]; omega⟩
        · have ht : (x % d == 0) = false := by simp [hx]
          obtain ⟨h1, h2⟩ := Num.remInv_end d1 hi2 hx
          clear hi2 hx
          by_cases hm : c % d = 0
          · subst h1 h2
            have hs := Num.facInv_div hn2 hinv hd hm
            have hp := Num.ve_pos d1 c1 hm
            clear hm hinv
            go_wp2_with (first | (at_builtin; refine wpList_append_own_at _ rfl (.tmp 32) (.tmp 34) 25 rfl w.heap.size 2 i0 (.int .i64 0) 1 8 Try.underlying25 hi hz0 hz1 hz2 rfl (by decide) u5 _ _ rfl (own1.alloc _) ⟨_, 0, none⟩ 1 1 [.int .i64 d] rfl rfl (cell_one_new _ _ _) (by simp [Value.oneCell']) (by unfold maxLen; omega) (by omega) (by go_size) ?_; intro v1 w1 hown1 hgrow1 _ hat1; have hk2 := (own2.alloc (Obj.cells #[.int .i64 d] 2)).kept hgrow1 hap.symm; have Z1 := hgrow1.size) | (at_builtin; refine wpList_append_own_at _ rfl (.tmp 36) (.tmp 38) 25 rfl w.heap.size 2 i0 (.int .i64 0) 1 8 Try.underlying25 hi hz0 hz1 hz2 rfl (by decide) u6 _ _ rfl (hk2.alloc _) ⟨_, 0, none⟩ 1 1 [.int .i64 (Num.ve d c)] rfl rfl (cell_one_new _ _ _) (by simp [Value.oneCell']) (by unfold maxLen; omega) (by omega) (by simp only [World.size_alloc] at Z1 ⊢; omega) ?_; intro v2 w2 hown2 hgrow2 _ hat2))
            obtain ⟨a1, a2, a3, a4⟩ := two_rows own1 own2 hap hbel Z hown1 hgrow1 hat1 hown2 hgrow2 hat2
            exact ⟨⟨_, _, _, _, rfl, rfl, hs, a1, a2, a3, a4⟩, by simp [intOf]; omega⟩
          · have hs := Num.facInv_skip hn2 hinv hd hm
            obtain ⟨x1, x2⟩ := Num.v_stop c1 d1 hm
            obtain rfl : k = 0 := by omega
            obtain rfl : x = c := by omega
            clear hm hinv x1 x2 h1 h2
            go_wp2
            exact ⟨⟨_, _, _, _, rfl, rfl, hs, own1, own2, hap, hbel⟩, by simp [intOf]; omega⟩
    · have hd' : ¬ (d * d ≤ c) := hd
      by_cases hc : c = 1
      · subst hc
        obtain ⟨e1, e2⟩ := Num.facInv_end hinv
        have E1 := Lib.hid e1
        have E2 := Lib.hid e2
        clear e1 e2 hinv
        go_wp2
        go_ret3
        exact ⟨_, _, rfl, by rw [← E1.out]; exact own1, by rw [← E2.out]; exact own2, hap, hbel⟩
      · have hc' : 1 < c := by omega
        have hs := Num.facInv_last hn2 hinv (by omega) hc'
        obtain ⟨e1, e2⟩ := Num.facInv_end hs
        have E1 := Lib.hid e1
        have E2 := Lib.hid e2
        clear hinv hs e1 e2
        go_wp2_with (first | (at_builtin; refine wpList_append_own_at _ rfl (.tmp 42) (.tmp 44) 25 rfl w.heap.size 2 i0 (.int .i64 0) 1 8 Try.underlying25 hi hz0 hz1 hz2 rfl (by decide) u5 _ _ rfl (own1.alloc _) ⟨_, 0, none⟩ 1 1 [.int .i64 c] rfl rfl (cell_one_new _ _ _) (by simp [Value.oneCell']) (by unfold maxLen; omega) (by omega) (by go_size) ?_; intro v1 w1 hown1 hgrow1 _ hat1; have hk2 := (own2.alloc (Obj.cells #[.int .i64 c] 2)).kept hgrow1 hap.symm; have Z1 := hgrow1.size) | (at_builtin; refine wpList_append_own_at _ rfl (.tmp 46) (.tmp 47) 25 rfl w.heap.size 2 i0 (.int .i64 0) 1 8 Try.underlying25 hi hz0 hz1 hz2 rfl (by decide) u6 _ _ rfl (hk2.alloc _) ⟨_, 0, none⟩ 1 1 [.int .i64 1] rfl rfl (cell_one_new _ _ _) (by simp [Value.oneCell']) (by unfold maxLen; omega) (by omega) (by simp only [World.size_alloc] at Z1 ⊢; omega) ?_; intro v2 w2 hown2 hgrow2 _ hat2))
        obtain ⟨a1, a2, a3, a4⟩ := two_rows own1 own2 hap hbel Z hown1 hgrow1 hat1 hown2 hgrow2 hat2
        go_ret3
        exact ⟨_, _, rfl, by rw [← E1.out]; exact a1, by rw [← E2.out]; exact a2, a3, a4⟩
end Go.Proofs.Ytkgiffmnhpbpiaa
