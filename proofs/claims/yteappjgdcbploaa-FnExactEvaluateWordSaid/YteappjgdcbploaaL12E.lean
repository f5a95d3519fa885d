/- Consistency of the program: the tower as it lies in memory; generator, number, lastGenerator, times, power. -/
import Derived.Test.YteappjgdcbploaaNumTz
import Derived.Test.YteappjgdcbploaaL12D
namespace Go.Proofs.Yteappjgdcbploaa
open Go.RowKit
set_option linter.unusedVariables false
set_option linter.unusedSimpArgs false

/-- The sizes of all tails. -/
def Num.szsL (O : List Int) (W : List (List Int)) (J : List (List (List Int))) : List Int := (List.range (O.length + 1)).map fun i => Num.szL (Num.tlL O W J i)
theorem Num.szsL_len (O : List Int) (W : List (List Int)) (J : List (List (List Int))) : (Num.szsL O W J).length = O.length + 1 := by simp [Num.szsL]
theorem Num.szsL_at {O : List Int} {W : List (List Int)} {J : List (List (List Int))} {i : Nat} (h : i ≤ O.length) : (Num.szsL O W J).getD i 0 = Num.szL (Num.tlL O W J i) := by
  unfold Num.szsL
  rw [List.getD_eq_getElem?_getD, List.getElem?_map, List.getElem?_range (by omega)]
  rfl
/-- The parts of a tower. -/
structure Tw where
  A0 : Option Addr
  c0 : Nat
  A1 : Option Addr
  c1 : Nat
  A2 : Option Addr
  c2 : Nat
  vR : Value
  gS : Nat
  cS : Nat
  AP : Option Addr
  cP : Nat
  bo : Nat
  tb : Nat
section
variable (O : List Int) (W : List (List Int)) (J : List (List (List Int)))
abbrev Tw.cells (t : Tw) (l : Nat) : List Value := [.slice t.A0 O.length t.c0, .slice t.A1 O.length t.c1, .slice t.A2 O.length t.c2, t.vR, .slice (some ⟨t.gS, 0, none⟩) (O.length + 1) t.cS, .slice t.AP O.length t.cP, .int .i64 (l : Int), .map (some t.bo)]
/-- A tower of the tails from a level on, as it is read. -/
structure TwR (t : Tw) (l : Nat) (w : World) : Prop where
  box : Blk w t.tb (t.cells O l) 121
  pres : RdP t.A0 t.A1 t.A2 O W J w
  sz : RdI w (some ⟨t.gS, 0, none⟩) (Num.szsL O W J)
  tabs : ∀ j, l ≤ j → j < O.length → ∃ gP B c, t.AP = some ⟨gP, 0, none⟩ ∧ gP < w.heap.size ∧ w.cell? ⟨gP, j, none⟩ = some (.slice B (Num.tabL (Num.tlL O W J j)).length c) ∧ RdI w B (Num.tabL (Num.tlL O W J j))
end
theorem Blk.c8 {w : World} {b : Nat} {v0 v1 v2 v3 v4 v5 v6 v7 : Value} {t : TypeId} (h : Blk w b [v0, v1, v2, v3, v4, v5, v6, v7] t) : b < w.heap.size ∧ w.cell? ⟨b, 0, none⟩ = some v0 ∧ w.cell? ⟨b, 1, none⟩ = some v1 ∧ w.cell? ⟨b, 2, none⟩ = some v2 ∧ w.cell? ⟨b, 3, none⟩ = some v3 ∧
    w.cell? ⟨b, 4, none⟩ = some v4 ∧ w.cell? ⟨b, 5, none⟩ = some v5 ∧ w.cell? ⟨b, 6, none⟩ = some v6 ∧ w.cell? ⟨b, 7, none⟩ = some v7 :=
  ⟨h.lt, h.cell 0 (by simp), h.cell 1 (by simp), h.cell 2 (by simp), h.cell 3 (by simp), h.cell 4 (by simp), h.cell 5 (by simp), h.cell 6 (by simp), h.cell 7 (by simp)⟩
theorem TwR.drewN {O : List Int} {W : List (List Int)} {J : List (List (List Int))} {t : Tw} {l : Nat} {w : World} (h : TwR O W J t l w) (n : Nat) : TwR O W J t l (w.drewN n) := ⟨h.box, h.pres, h.sz, h.tabs⟩
theorem szL_small {O : List Int} {W : List (List Int)} {J : List (List (List Int))} (V : Num.Val O W J) : ∀ (d i : Nat), O.length - i = d → Num.szL (Num.tlL O W J i) ≤ 7 ^ d
  | 0, i, h => by rw [Num.tlL_end (by omega)]; decide
  | d + 1, i, h => by
    rw [Num.tlL_step (by omega)]
    have ih := szL_small V d (i + 1) (by omega)
    have hp := Num.szL_pos (V.ok (i + 1))
    have ho := V.ob i (by omega)
    show O.getD i 0 * Num.szL (Num.tlL O W J (i + 1)) ≤ _
    rw [Int.pow_succ, Int.mul_comm]
    exact Int.mul_le_mul ih ho.2 (by omega) (by omega)
theorem szL_bd {O : List Int} {W : List (List Int)} {J : List (List (List Int))} (V : Num.Val O W J) (i : Nat) : 1 ≤ Num.szL (Num.tlL O W J i) ∧ Num.szL (Num.tlL O W J i) ≤ 117649 := by
  refine ⟨Num.szL_pos (V.ok i), ?_⟩
  have h := szL_small V _ i rfl
  have n6 := V.n6
  have h2 : (7 : Int) ^ (O.length - i) ≤ 117649 := by
    have hd : O.length - i ≤ 6 := by omega
    clear h
    generalize O.length - i = d at *
    match d, hd with
    | 0, _ => decide
    | 1, _ => decide
    | 2, _ => decide
    | 3, _ => decide
    | 4, _ => decide
    | 5, _ => decide
    | 6, _ => decide
  omega
set_option maxHeartbeats 1000000 in
theorem gen_any {O : List Int} {W : List (List Int)} {J : List (List (List Int))} {t : Tw} {l : Nat} {w : World} (V : Num.Val O W J) (T : TwR O W J t l w) (i : Nat) (hi : i < O.length) :
    Calls Try.prog 111 #[.pointer (some ⟨t.tb, 0, none⟩), .int .i64 (i : Int)] w fun e w' => e = .returned (.int .i64 (Num.szL (Num.tlL O W J (i + 1)))) ∧ w = w' := by
  have n6 := V.n6
  obtain ⟨tl, t0, t1, t2, t3, t4, t5, t6, t7⟩ := T.box.c8
  obtain ⟨g, o, e, hg, hc⟩ := T.sz (i + 1) (by rw [Num.szsL_len]; omega)
  simp only [Option.some.injEq, Addr.mk.injEq, and_true] at e
  obtain ⟨rfl, rfl⟩ := e
  rw [Num.szsL_at (by omega), Nat.zero_add] at hc
  have hw : IntKind.i64.wrap ((i : Int) + 1) = ((i + 1 : Nat) : Int) := by rw [IntWalk.i64_in _ (by omega)]; omega
  have i0 : (0 : Int) ≤ ((i + 1 : Nat) : Int) := by omega
  have i1 : ((i + 1 : Nat) : Int) < ((O.length + 1 : Nat) : Int) := by omega
  have e1 : (((i + 1 : Nat) : Int)).toNat = i + 1 := by omega
  generalize ((i + 1 : Nat) : Int) = ii at *
  generalize ((O.length + 1 : Nat) : Int) = nn at *
  generalize Num.szL (Num.tlL O W J (i + 1)) = s at *
  clear T V
  go_enter Try.func111, Try.ntmps111
  go_wp2_with (fail)
  go_ret
  exact ⟨rfl, rfl⟩
theorem Num.tlL_drop {O : List Int} {W : List (List Int)} {J : List (List (List Int))} : ∀ (k i : Nat), (Num.tlL O W J i).drop k = Num.tlL O W J (i + k)
  | 0, i => rfl
  | k + 1, i => by
    by_cases h : i < O.length
    · rw [Num.tlL_step h, List.drop_succ_cons, Num.tlL_drop k (i + 1), show i + 1 + k = i + (k + 1) by omega]
    · rw [Num.tlL_end (by omega), Num.tlL_end (by omega)]; rfl
theorem Num.num_step {O : List Int} {W : List (List Int)} {J : List (List (List Int))} {v : List Int} (hl : v.length = O.length) {i : Nat} (hi : i < O.length) :
    Num.numL (Num.tlL O W J i) (v.drop i) = v.getD i 0 * Num.szL (Num.tlL O W J (i + 1)) + Num.numL (Num.tlL O W J (i + 1)) (v.drop (i + 1)) := by
  rw [Num.drop_at (by omega), Num.tlL_step hi]
  rfl
theorem Num.num_pad {O : List Int} {W : List (List Int)} {J : List (List (List Int))} {v : List Int} (hl : v.length = O.length) : ∀ z, z ≤ O.length → (∀ j, j < z → v.getD j 0 = 0) → Num.numL (Num.tlL O W J 0) v = Num.numL (Num.tlL O W J z) (v.drop z)
  | 0, _, _ => rfl
  | z + 1, hz, h => by
    rw [Num.num_pad hl z (by omega) fun j hj => h j (by omega), Num.num_step hl (by omega), h z (by omega)]
    omega
set_option maxHeartbeats 2000000 in
theorem number_any {O : List Int} {W : List (List Int)} {J : List (List (List Int))} {t : Tw} {l : Nat} {w : World} (V : Num.Val O W J) (T : TwR O W J t l w) (v : List Int) (A : Option Addr) (c : Nat) (hA : RdI w A v) (hl : v.length = O.length) (hE : Num.El (Num.tlL O W J 0) v) :
    Calls Try.prog 106 #[.pointer (some ⟨t.tb, 0, none⟩), .slice A O.length c] w fun e w' => e = .returned (.int .i64 (Num.numL (Num.tlL O W J 0) v)) ∧ w = w' := by
  have n6 := V.n6
  have HV := Lib.hid V
  have HT := Lib.hid T
  have HE := Lib.hid hE
  have HL := Lib.hid hl
  have HB := Lib.hid (szL_bd V)
  clear V T hE hl
  go_enter Try.func106, Try.ntmps106
  go_wp2_with (fail)
  go_loop [5, 6, 7, 10] (fun s5 _ _ s10 => ∃ (i : Nat) (x : Int), s10 = .int .i64 (i : Int) ∧ s5 = .int .i64 x ∧ i ≤ O.length ∧ Hid (x + Num.numL (Num.tlL O W J i) (v.drop i) = Num.numL (Num.tlL O W J 0) v) ∧ 0 ≤ x ∧ x ≤ 117649) (fun _ _ _ s10 => O.length - (intOf s10).toNat)
  case atStart => exact ⟨0, 0, rfl, rfl, by omega, Lib.hid (by rw [Int.zero_add]; rfl), by omega, by omega⟩
  case round =>
    obtain ⟨i, x, rfl, rfl, hi, hx, x0, x1⟩ := hrel
    by_cases hlt : i < O.length
    · obtain ⟨g, o, rfl, hg, hc⟩ := hA i (by rw [HL.out]; exact hlt)
      have i0 : (0 : Int) ≤ (i : Int) := by omega
      have i1 : (i : Int) < (O.length : Int) := by omega
      have HG := Lib.hid (gen_any HV.out HT.out i hlt)
      have hst := Num.num_step (W := W) (J := J) HL.out hlt
      have hr := Num.numL_rng (HV.out.ok (i + 1)) (a := v.drop (i + 1)) (by have := Num.El.drop (i + 1) HE.out; rwa [Num.tlL_drop, Nat.zero_add] at this)
      have hr0 := Num.numL_rng (HV.out.ok 0) HE.out
      have hb0 := HB.out 0
      have hb := HB.out (i + 1)
      have hv := Num.El.at _ 0 rfl HE.out i (by omega)
      have ho := HV.out.ob i hlt
      rw [Nat.zero_add] at hv
      have hx' := hx.out
      rw [hst] at hx'
      have HN : Hid (x + v.getD i 0 * Num.szL (Num.tlL O W J (i + 1)) + Num.numL (Num.tlL O W J (i + 1)) (v.drop (i + 1)) = Num.numL (Num.tlL O W J 0) v) := Lib.hid (by omega)
      have hp0 : 0 ≤ v.getD i 0 * Num.szL (Num.tlL O W J (i + 1)) := Int.mul_nonneg hv.1 (by omega)
      have hp1 : x + v.getD i 0 * Num.szL (Num.tlL O W J (i + 1)) ≤ 117649 := by omega
      clear hx hst hx' hr hr0 hb0
      generalize v.getD i 0 = y at *
      generalize Num.szL (Num.tlL O W J (i + 1)) = s at *
      have hw1 : IntKind.i64.wrap (y * s) = y * s := IntWalk.i64_in _ (by omega)
      have hw2 : IntKind.i64.wrap (x + y * s) = x + y * s := IntWalk.i64_in _ (by omega)
      go_wp2_with (fail)
      refine HG.out.mono ?_; rintro e w1 ⟨rfl, rfl⟩
      go_wp2_with (fail)
      exact ⟨⟨i + 1, x + y * s, by go_num, rfl, by omega, HN, by omega, by omega⟩, by simp [intOf]; omega⟩
    · obtain rfl : i = O.length := by omega
      have hge : ¬ ((O.length : Int) < (O.length : Int)) := by omega
      have HN : Hid (x = Num.numL (Num.tlL O W J 0) v) := Lib.hid (by
        have := hx.out
        rw [Num.tlL_end (Nat.le_refl _)] at this
        have e : Num.numL [] (v.drop O.length) = 0 := rfl
        omega)
      clear hx
      go_wp2_with (fail)
      go_ret
      exact ⟨ret_i HN.out, rfl⟩
set_option maxHeartbeats 2000000 in
theorem lastGen_any {O : List Int} {W : List (List Int)} {J : List (List (List Int))} {t : Tw} {l : Nat} {w : World} (V : Num.Val O W J) (T : TwR O W J t l w) (a : List Int) (hE : Num.El (Num.tlL O W J l) a) (hn : Num.numL (Num.tlL O W J l) a ≠ 0) (hl : l ≤ O.length) :
    Calls Try.prog 171 #[.pointer (some ⟨t.tb, 0, none⟩), .int .i64 (Num.numL (Num.tlL O W J l) a)] w fun e w' => (∃ q f x, Num.Last (Num.tlL O W J l) a q f x ∧ e = .returned (.int .i64 (Num.szL (Num.tlL O W J (l + q + 1))))) ∧ w = w' := by
  have n6 := V.n6
  have hlt : l < O.length := by
    by_cases h : l < O.length
    · exact h
    · exact absurd (by rw [Num.tlL_end (by omega)]; rfl) hn
  have HV := Lib.hid V
  have HT := Lib.hid T
  have HE := Lib.hid hE
  have HB := Lib.hid (szL_bd V)
  have HNZ := Lib.hid hn
  obtain ⟨tl, t0, t1, t2, t3, t4, t5, t6, t7⟩ := T.box.c8
  have HS : Hid (∀ i, i ≤ O.length → w.cell? ⟨t.gS, i, none⟩ = some (.int .i64 (Num.szL (Num.tlL O W J i)))) := Lib.hid fun i hi => by
    obtain ⟨g, o, e, hg, hc⟩ := T.sz i (by rw [Num.szsL_len]; omega)
    simp only [Option.some.injEq, Addr.mk.injEq, and_true] at e
    obtain ⟨rfl, rfl⟩ := e
    rwa [Num.szsL_at hi, Nat.zero_add] at hc
  have hr := Num.numL_rng (V.ok l) hE
  have hlb := szL_bd V l
  have hw0 : IntKind.i64.wrap ((O.length : Int) - 1) = (O.length : Int) - 1 := IntWalk.i64_in _ (by omega)
  obtain ⟨X, hX⟩ : ∃ X, X = Num.numL (Num.tlL O W J l) a := ⟨_, rfl⟩
  have HX := Lib.hid hX
  rw [← hX] at hr ⊢
  clear V T hE hn hX
  go_enter Try.func171, Try.ntmps171
  go_wp2_with (fail)
  go_loop [5] (fun s5 => ∃ i : Nat, s5 = .int .i64 (i : Int) ∧ l ≤ i ∧ i < O.length ∧ Hid (a.drop (i + 1 - l) = Num.zer (O.length - (i + 1)))) (fun s5 => (intOf s5).toNat)
  case atStart =>
    refine ⟨O.length - 1, by go_num, by omega, by omega, Lib.hid ?_⟩
    have := HE.out.len
    rw [Num.tlL_len] at this
    rw [List.drop_of_length_le (by omega), show O.length - (O.length - 1 + 1) = 0 by omega]
    rfl
  case round =>
    obtain ⟨i, rfl, hi0, hi, hz⟩ := hrel
    have hc := HS.out i (by omega)
    have hb := HB.out i
    have hmod := Num.num_mod (HV.out.ok l) (i - l) HE.out (by rw [Num.tlL_len]; omega)
    rw [Num.tlL_drop, show l + (i - l) = i by omega, ← HX.out] at hmod
    have i0 : (0 : Int) ≤ (i : Int) := by omega
    have i1 : (i : Int) < ((O.length + 1 : Nat) : Int) := by omega
    have HZ : Hid (Num.numL (Num.tlL O W J i) (a.drop (i - l)) = 0 → a.drop (i - l) = Num.zer (O.length - i)) := Lib.hid fun h => by
      have := Num.zero_of (HV.out.ok l) HE.out (q := i - l) (by rw [Num.tlL_len]; omega) (by rw [Num.tlL_drop, show l + (i - l) = i by omega]; exact h)
      rwa [Num.tlL_len, show O.length - l - (i - l) = O.length - i by omega] at this
    have HLA : Hid (Num.numL (Num.tlL O W J i) (a.drop (i - l)) ≠ 0 → Num.Last (Num.tlL O W J l) a (i - l) (a.take (i - l)) (a.getD (i - l) 0)) := Lib.hid fun h => by
      refine Num.last_of (HV.out.ok l) HE.out (by rw [Num.tlL_len]; omega) ?_ ?_
      · rw [Num.tlL_len, show i - l + 1 = i + 1 - l by omega, hz.out, show O.length - l - (i + 1 - l) = O.length - (i + 1) by omega]
      · rw [Num.tlL_drop, show l + (i - l) = i by omega]; exact h
    have hnn : ∀ s, s ≠ 0 → X.tmod s = X % s := fun s hs => Int.tmod_eq_emod_of_nonneg hr.1
    have htm := hnn (Num.szL (Num.tlL O W J i)) (by omega)
    rw [hmod] at htm
    have hmr := Num.numL_rng (HV.out.ok i) (a := a.drop (i - l)) (by have := Num.El.drop (i - l) HE.out; rwa [Num.tlL_drop, show l + (i - l) = i by omega] at this)
    have HG := Lib.hid (gen_any HV.out HT.out i hi)
    have HQ : Hid (i = l → Num.numL (Num.tlL O W J i) (a.drop (i - l)) ≠ 0) := Lib.hid fun h => by
      subst h
      rw [Nat.sub_self]
      exact HNZ.out
    clear hmod hz hnn
    have hs0 : Num.szL (Num.tlL O W J i) ≠ 0 := by omega
    generalize Num.szL (Num.tlL O W J i) = s at *
    generalize Num.numL (Num.tlL O W J i) (a.drop (i - l)) = m at *
    have hwm : IntKind.i64.wrap m = m := IntWalk.i64_in _ (by omega)
    generalize ((O.length + 1 : Nat) : Int) = nn at *
    by_cases hm : m = 0
    · have HZ2 := Lib.hid (HZ.out hm)
      have hil : l < i := by
        rcases Nat.lt_or_ge l i with h | h
        · exact h
        · exact absurd hm (HQ.out (by omega))
      have hwi : IntKind.i64.wrap ((i : Int) - 1) = (i : Int) - 1 := IntWalk.i64_in _ (by omega)
      clear HZ HLA HQ
      subst hm
      go_wp2_with (fail)
      exact ⟨⟨i - 1, by go_num, by omega, by omega, Lib.hid (by rw [show i - 1 + 1 - l = i - l by omega, show i - 1 + 1 = i by omega]; exact HZ2.out)⟩, by simp [intOf]; omega⟩
    · have HLB := Lib.hid (HLA.out hm)
      have hme : (m == 0) = false := by simp [hm]
      clear HZ HLA HQ
      go_wp2_with (fail)
      refine HG.out.mono ?_; rintro e w1 ⟨rfl, rfl⟩
      go_wp2_with (fail)
      go_ret
      exact ⟨⟨i - l, _, _, HLB.out, by rw [show l + (i - l) + 1 = i + 1 by omega]; rfl⟩, rfl⟩
set_option maxRecDepth 100000 in
set_option maxHeartbeats 4000000 in
theorem times_any {O : List Int} {W : List (List Int)} {J : List (List (List Int))} {t : Tw} {l : Nat} {w : World} (V : Num.Val O W J) (T : TwR O W J t l w) (hl : l ≤ O.length) (C : Num.Con (Num.tlL O W J l)) (a b : List Int) (ha : Num.El (Num.tlL O W J l) a) (hb : Num.El (Num.tlL O W J l) b) :
    Calls Try.prog 108 #[.pointer (some ⟨t.tb, 0, none⟩), .int .i64 (Num.numL (Num.tlL O W J l) a), .int .i64 (Num.numL (Num.tlL O W J l) b)] w fun e w' => e = .returned (.int .i64 (Num.numL (Num.tlL O W J l) (Num.mulL (Num.tlL O W J l) a b))) ∧ w = w' := by
  have n6 := V.n6
  have HV := Lib.hid V
  have HC := Lib.hid C
  have HB := Lib.hid (szL_bd V)
  have HG : Hid (∀ i, i < O.length → Calls Try.prog 111 #[.pointer (some ⟨t.tb, 0, none⟩), .int .i64 (i : Int)] w fun e w' => e = .returned (.int .i64 (Num.szL (Num.tlL O W J (i + 1)))) ∧ w = w') := Lib.hid fun i hi => gen_any V T i hi
  obtain ⟨tl, t0, t1, t2, t3, t4, t5, t6, t7⟩ := T.box.c8
  have HS : Hid (∀ i, i ≤ O.length → w.cell? ⟨t.gS, i, none⟩ = some (.int .i64 (Num.szL (Num.tlL O W J i)))) := Lib.hid fun i hi => by
    obtain ⟨g, o, e, hg, hc⟩ := T.sz i (by rw [Num.szsL_len]; omega)
    simp only [Option.some.injEq, Addr.mk.injEq, and_true] at e
    obtain ⟨rfl, rfl⟩ := e
    rwa [Num.szsL_at hi, Nat.zero_add] at hc
  have HTB := Lib.hid T.tabs
  have HEb := Lib.hid hb
  have hra := Num.numL_rng (V.ok l) ha
  have hrb := Num.numL_rng (V.ok l) hb
  have hlb := szL_bd V l
  obtain ⟨R, hR⟩ : ∃ R, R = Num.mulL (Num.tlL O W J l) a b := ⟨_, rfl⟩
  have HR := Lib.hid hR
  rw [← hR]
  have HA := Lib.hid ha
  clear V T C hR ha hb
  go_enter Try.func108, Try.ntmps108
  go_wp2_with (fail)
  go_loop [1, 2, 7, 8, 26, 27] (fun s1 s2 s7 _ _ _ => ∃ (k : Nat) (u v : List Int), s7 = .int .i64 ((l + k : Nat) : Int) ∧ s1 = .int .i64 (Num.numL (Num.tlL O W J l) u) ∧ s2 = .int .i64 (Num.numL (Num.tlL O W J (l + k)) v) ∧ l + k ≤ O.length ∧ Hid (Num.El (Num.tlL O W J l) u) ∧ Hid (Num.El (Num.tlL O W J (l + k)) v) ∧ Hid (Num.mulL (Num.tlL O W J l) u (Num.zer k ++ v) = R)) (fun _ _ s7 _ _ _ => O.length - (intOf s7).toNat)
  case atStart => exact ⟨0, a, b, rfl, rfl, rfl, by omega, HA, HEb, Lib.hid HR.out.symm⟩
  case round =>
    clear HA HEb HR hra hrb
    obtain ⟨k, u, v, rfl, rfl, rfl, hk, hu, hv, ht⟩ := hrel
    by_cases hlt : l + k < O.length
    · have hi1 : ((l + k : Nat) : Int) < (O.length : Int) := by omega
      have hi0 : (0 : Int) ≤ ((l + k : Nat) : Int) := by omega
      have hin : ((l + k : Nat) : Int) < ((O.length + 1 : Nat) : Int) := by omega
      have hiw : IntKind.i64.wrap (((l + k : Nat) : Int) + 1) = ((l + (k + 1) : Nat) : Int) := by rw [IntWalk.i64_in _ (by omega)]; omega
      have hvv := hv.out
      rw [Num.tlL_step hlt] at hvv
      obtain ⟨y, v', rfl, y0, y1, hv'⟩ := hvv
      have y1' : y < O.getD (l + k) 0 := y1
      have ho := HV.out.ob (l + k) hlt
      have hG := Lib.hid (HG.out (l + k) hlt)
      have hb1 := HB.out (l + k + 1)
      have hb2 := HB.out (l + k)
      have hr1 := Num.numL_rng (HV.out.ok (l + k + 1)) hv'
      have e1 : Num.numL (Num.tlL O W J (l + k)) (y :: v') = y * Num.szL (Num.tlL O W J (l + k + 1)) + Num.numL (Num.tlL O W J (l + k + 1)) v' := by rw [Num.tlL_step hlt]; rfl
      have hp0 : 0 ≤ y * Num.szL (Num.tlL O W J (l + k + 1)) := Int.mul_nonneg y0 (by omega)
      have hq : (y * Num.szL (Num.tlL O W J (l + k + 1)) + Num.numL (Num.tlL O W J (l + k + 1)) v').tdiv (Num.szL (Num.tlL O W J (l + k + 1))) = y := by
        rw [Int.tdiv_eq_ediv_of_nonneg (by omega), Int.add_comm, Int.add_mul_ediv_right _ _ (by omega), Int.ediv_eq_zero_of_lt hr1.1 hr1.2, Int.zero_add]
      have hmo : (y * Num.szL (Num.tlL O W J (l + k + 1)) + Num.numL (Num.tlL O W J (l + k + 1)) v').tmod (Num.szL (Num.tlL O W J (l + k + 1))) = Num.numL (Num.tlL O W J (l + k + 1)) v' := by
        rw [Int.tmod_eq_emod_of_nonneg (by omega), Int.add_comm, Int.add_mul_emod_self_right, Int.emod_eq_of_lt hr1.1 hr1.2]
      have hwy : IntKind.i64.wrap y = y := IntWalk.i64_in _ (by omega)
      have hwn : IntKind.i64.wrap (Num.numL (Num.tlL O W J (l + k + 1)) v') = Num.numL (Num.tlL O W J (l + k + 1)) v' := IntWalk.i64_in _ (by omega)
      have hs0 : Num.szL (Num.tlL O W J (l + k + 1)) ≠ 0 := by omega
      have HEV := Lib.hid hv'
      have HY := Lib.hid y1
      rw [e1]
      clear e1 hv hv' y1
      obtain ⟨gP, B, cT, hAP, hgP, hcT, hRT⟩ := HTB.out (l + k) (by omega) hlt
      have hcS := HS.out (l + k) (by omega)
      have HTL : Hid (((Num.tabL (Num.tlL O W J (l + k))).length : Int) = Num.szL (Num.tlL O W J (l + k))) := Lib.hid (Num.tabL_len (HV.out.ok (l + k)))
      have HRT := Lib.hid hRT
      generalize hs1 : Num.szL (Num.tlL O W J (l + k + 1)) = s1 at *
      generalize hn1 : Num.numL (Num.tlL O W J (l + k + 1)) v' = m1 at *
      have hs2 : Num.szL (Num.tlL O W J (l + k)) ≠ 0 := by omega
      obtain ⟨tabn, htabn⟩ : ∃ n, n = (Num.tabL (Num.tlL O W J (l + k))).length := ⟨_, rfl⟩
      rw [← htabn] at hcT HTL
      have HTN := Lib.hid htabn
      have HNX := Lib.hid hn1
      clear hRT htabn hs1 hn1
      go_wp2_with (fail)
      refine hG.out.mono ?_; rintro e w1 ⟨rfl, rfl⟩
      go_wp2_with (fail)
      go_loop [1, 8, 27] (fun s1' _ s27 => ∃ (r : Int) (u : List Int), s27 = .int .i64 r ∧ s1' = .int .i64 (Num.numL (Num.tlL O W J l) u) ∧ 0 ≤ r ∧ r ≤ y ∧ Hid (Num.El (Num.tlL O W J l) u) ∧ Hid (Num.mulL (Num.tlL O W J l) u (Num.zer k ++ (y - r) :: v') = R)) (fun _ _ s27 => (y - intOf s27).toNat)
      case atStart => exact ⟨0, u, rfl, rfl, by omega, by omega, hu, Lib.hid (by rw [Int.sub_zero]; exact ht.out)⟩
      case round =>
        clear hu ht
        obtain ⟨r, u, rfl, rfl, r0, r1, hu, ht⟩ := hrel
        by_cases hry : r < y
        · have hmod := Num.num_mod (HV.out.ok l) k hu.out (by rw [Num.tlL_len]; omega)
          rw [Num.tlL_drop] at hmod
          have hru := Num.numL_rng (HV.out.ok l) hu.out
          have hlb := HB.out l
          have hEd : Num.El (Num.tlL O W J (l + k)) (u.drop k) := by have := Num.El.drop k hu.out; rwa [Num.tlL_drop] at this
          have hrd := Num.numL_rng (HV.out.ok (l + k)) hEd
          have htm : (Num.numL (Num.tlL O W J l) u).tmod (Num.szL (Num.tlL O W J (l + k))) = Num.numL (Num.tlL O W J (l + k)) (u.drop k) := by rw [Int.tmod_eq_emod_of_nonneg hru.1]; exact hmod
          have hst := Num.step_num (HV.out.ok l) k (by rw [Num.tlL_len]; omega) hu.out
          rw [Num.tlL_drop, hmod] at hst
          have hG' : Num.El (Num.tlL O W J l) (Num.zer k ++ Num.genL (Num.tlL O W J (l + k))) := Num.zer_put (HV.out.ok l) k (by rw [Num.tlL_drop]; exact Num.genL_El (HV.out.ok _)) (by rw [Num.tlL_len]; omega)
          have hM := Num.El.mul (HV.out.ok l) hu.out hG'
          have hrm := Num.numL_rng (HV.out.ok l) hM
          have HU2 := Lib.hid hM
          have HT2 : Hid (Num.mulL (Num.tlL O W J l) (Num.mulL (Num.tlL O W J l) u (Num.zer k ++ Num.genL (Num.tlL O W J (l + k)))) (Num.zer k ++ (y - (r + 1)) :: v') = R) := Lib.hid (by
            rw [← ht.out]
            have := Num.letter (HV.out.ok l) HC.out k (by rw [Num.tlL_len]; omega) (by rw [Num.tlL_drop]; exact Num.tlL_step hlt) hu.out (e := y - r) (by omega) (by have := HY.out; omega) HEV.out
            rw [Num.tlL_drop] at this
            rw [this, show y - r - 1 = y - (r + 1) by omega])
          generalize Num.mulL (Num.tlL O W J l) u (Num.zer k ++ Num.genL (Num.tlL O W J (l + k))) = u2 at *
          have hidx : Num.numL (Num.tlL O W J (l + k)) (u.drop k) < (tabn : Int) := by rw [HTL.out]; exact hrd.2
          obtain ⟨gT, oT, rfl, hgT, hcV⟩ := HRT.out (Num.numL (Num.tlL O W J (l + k)) (u.drop k)).toNat (by rw [← HTN.out]; omega)
          have hd0 := hrd.1
          generalize Num.numL (Num.tlL O W J (l + k)) (u.drop k) = d at *
          generalize (Num.tabL (Num.tlL O W J (l + k))).getD d.toNat 0 = tv at *
          generalize hs2g : Num.szL (Num.tlL O W J (l + k)) = s2 at *
          have hwd : IntKind.i64.wrap d = d := IntWalk.i64_in _ (by omega)
          have hwt : IntKind.i64.wrap (tv - d) = tv - d := IntWalk.i64_in _ (by omega)
          have hwx : IntKind.i64.wrap (Num.numL (Num.tlL O W J l) u + (tv - d)) = Num.numL (Num.tlL O W J l) u2 := by rw [← hst]; exact IntWalk.i64_in _ (by omega)
          have hwr : IntKind.i64.wrap (r + 1) = r + 1 := IntWalk.i64_in _ (by omega)
          clear hst hmod hEd hG' hM hru hrd hu ht hs2g
          generalize Num.numL (Num.tlL O W J l) u = xu at *
          go_wp2_with (fail)
          exact ⟨⟨r + 1, u2, rfl, rfl, by omega, by omega, HU2, HT2⟩, by simp [intOf]; omega⟩
        · obtain rfl : r = y := by omega
          have hge : ¬ (r < r) := by omega
          have hwn' : IntKind.i64.wrap m1 = m1 := hwn
          have HT2 : Hid (Num.mulL (Num.tlL O W J l) u (Num.zer (k + 1) ++ v') = R) := Lib.hid (by
            rw [← ht.out, Int.sub_self]
            congr 1
            unfold Num.zer
            rw [List.replicate_succ', List.append_assoc]
            rfl)
          go_wp2_with (fail)
          refine hG.out.mono ?_; rintro e w1 ⟨rfl, rfl⟩
          go_wp2_with (fail)
          exact ⟨⟨k + 1, u, v', rfl, rfl, by rw [← HNX.out]; rfl, by omega, hu, HEV, HT2⟩, by simp [intOf]; omega⟩
    · have hge : ¬ (((l + k : Nat) : Int) < (O.length : Int)) := by omega
      have HU : Hid (u = R) := Lib.hid (by
        have e : v = [] := by have := hv.out; rw [Num.tlL_end (by omega)] at this; exact this
        have h1 := ht.out
        rw [e, List.append_nil] at h1
        have h2 := (Num.Con.mon (HV.out.ok l) HC.out).oner _ hu.out
        rw [Num.tlL_len, show O.length - l = k by omega] at h2
        rw [← h1, h2])
      go_wp2_with (fail)
      go_ret
      exact ⟨by rw [HU.out]; rfl, rfl⟩
set_option maxHeartbeats 2000000 in
theorem power_any {O : List Int} {W : List (List Int)} {J : List (List (List Int))} {t : Tw} {l : Nat} {w : World} (V : Num.Val O W J) (T : TwR O W J t l w) (hl : l ≤ O.length) (C : Num.Con (Num.tlL O W J l)) (a : List Int) (n : Int) (ha : Num.El (Num.tlL O W J l) a) (hn0 : 0 ≤ n) (hn : n ≤ 1000) :
    Calls Try.prog 170 #[.pointer (some ⟨t.tb, 0, none⟩), .int .i64 (Num.numL (Num.tlL O W J l) a), .int .i64 n] w fun e w' => e = .returned (.int .i64 (Num.numL (Num.tlL O W J l) (Num.pw (Num.mulL (Num.tlL O W J l)) (Num.zer (O.length - l)) a n.toNat))) ∧ w = w' := by
  have M := Num.Con.mon' V C
  have HT : Hid (∀ u, Num.El (Num.tlL O W J l) u → Calls Try.prog 108 #[.pointer (some ⟨t.tb, 0, none⟩), .int .i64 (Num.numL (Num.tlL O W J l) u), .int .i64 (Num.numL (Num.tlL O W J l) a)] w fun e w' => e = .returned (.int .i64 (Num.numL (Num.tlL O W J l) (Num.mulL (Num.tlL O W J l) u a))) ∧ w = w') := Lib.hid fun u hu => times_any V T hl C u a hu ha
  have HM := Lib.hid M
  have HA := Lib.hid ha
  have e0 : Num.numL (Num.tlL O W J l) (Num.zer (O.length - l)) = 0 := by
    have := Num.numL_zer (Num.tlL O W J l)
    rwa [Num.tlL_len] at this
  have E0 := Lib.hid e0
  clear V T C M ha e0
  go_enter Try.func170, Try.ntmps170
  go_wp2_with (fail)
  go_loop [7, 9] (fun s7 s9 => ∃ m : Nat, s9 = .int .i64 (m : Int) ∧ (m : Int) ≤ n ∧ s7 = .int .i64 (Num.numL (Num.tlL O W J l) (Num.pw (Num.mulL (Num.tlL O W J l)) (Num.zer (O.length - l)) a m))) (fun _ s9 => (n - intOf s9).toNat)
  case atStart => exact ⟨0, rfl, by omega, by rw [show Num.pw (Num.mulL (Num.tlL O W J l)) (Num.zer (O.length - l)) a 0 = Num.zer (O.length - l) from rfl, E0.out]⟩
  case round =>
    obtain ⟨m, rfl, hm, rfl⟩ := hrel
    by_cases hlt : (m : Int) < n
    · have HC := Lib.hid (HT.out _ (HM.out.pw_P HA.out m))
      rw [← Num.pw_succ (Num.mulL (Num.tlL O W J l)) (Num.zer (O.length - l)) a m] at HC
      have hwm : IntKind.i64.wrap ((m : Int) + 1) = ((m + 1 : Nat) : Int) := by rw [IntWalk.i64_in _ (by omega)]; omega
      generalize Num.numL (Num.tlL O W J l) (Num.pw (Num.mulL (Num.tlL O W J l)) (Num.zer (O.length - l)) a m) = x at *
      go_wp2_with (fail)
      refine HC.out.mono ?_; rintro e w1 ⟨rfl, rfl⟩
      go_wp2_with (fail)
      exact ⟨⟨m + 1, rfl, by omega, rfl⟩, by simp [intOf]; omega⟩
    · have HN : Hid (m = n.toNat) := Lib.hid (by omega)
      go_wp2_with (fail)
      go_ret
      exact ⟨by rw [← HN.out]; rfl, rfl⟩
end Go.Proofs.Yteappjgdcbploaa
