/- Rows of integers of the program: added up, copied, compared, multiplied. -/
import Derived.Test.YtihdidbikeaafaaL06B
import Derived.Test.YtihdidbikeaafaaNumSm
namespace Go.Proofs.Ytihdidbikeaafaa
open Go.RowKit
set_option linter.unusedVariables false
set_option linter.unusedSimpArgs false

theorem timesZ_any (a b : Int) (w : World) (h1 : -4611686018427387904 ≤ a * b) (h2 : a * b ≤ 4611686018427387904) : Calls Try.prog 141 #[.int .i64 a, .int .i64 b] w fun e w' => e = .returned (.int .i64 (a * b)) ∧ w = w' := by
  go_enter Try.func141, Try.ntmps141
  go_wp2_with (fail)
  go_ret
  exact ⟨rfl, rfl⟩
theorem plusZ_any (a b : Int) (w : World) (h1 : -4611686018427387904 ≤ a + b) (h2 : a + b ≤ 4611686018427387904) : Calls Try.prog 140 #[.int .i64 a, .int .i64 b] w fun e w' => e = .returned (.int .i64 (a + b)) ∧ w = w' := by
  go_enter Try.func140, Try.ntmps140
  go_wp2_with (fail)
  go_ret
  exact ⟨rfl, rfl⟩
theorem spZ_form {w : World} {v : Value} {x : List Int} (h : spZ.rd w v x) : ∃ A c, v = .slice A x.length c ∧ x.length ≤ maxLen ∧ RdI w A x := h
theorem spZ_own_at {w : World} {S : Nat → Prop} {v : Value} {x : List Int} (h : spZ.own w S v x) {j : Nat} (hj : j < x.length) :
    ∃ g c, v = .slice (some ⟨g, 0, none⟩) x.length c ∧ S g ∧ g < w.heap.size ∧ w.cell? ⟨g, j, none⟩ = some (.int .i64 (x.getD j 0)) ∧ w.frozen? ⟨g, j, none⟩ = false := by
  obtain ⟨h1, h2, h3⟩ := h
  rcases h1.2 with ⟨hv, h0⟩ | ⟨g, c, cur, hv, hb, hg, r⟩
  · omega
  · have hS := h2 g (by rw [hv]; rfl)
    subst hv
    exact ⟨g, c, rfl, hS, h3 g hS, by rw [h1.cellAt j (by simpa using hj)]; simp [hj], h1.frozenAt _⟩
theorem spZ_set {w : World} {S : Nat → Prop} {g n c : Nat} {x : List Int} (h : spZ.own w S (.slice (some ⟨g, 0, none⟩) n c) x) {j : Nat} (hj : j < x.length) (y : Int) :
    spZ.own (w.setCell ⟨g, j, none⟩ (.int .i64 y)) S (.slice (some ⟨g, 0, none⟩) n c) (x.set j y) := by
  obtain ⟨h1, h2, h3⟩ := h
  obtain rfl : n = x.length := by
    obtain ⟨A', c', hv, _⟩ := ownsRow_cap h1
    simp only [Value.slice.injEq] at hv
    exact hv.2.1
  obtain ⟨st1, gr1⟩ := h1.stored j (.int .i64 y)
  refine ⟨?_, h2, fun k hk => by have := h3 k hk; simpa using this⟩
  rw [List.length_set, List.map_set]
  exact st1
theorem chg_set1 {S : Nat → Prop} {w : World} {g j : Nat} (h : S g) (u : Value) : ChgS S w (w.setCell ⟨g, j, none⟩ u) :=
  (ChgS.set w ⟨g, j, none⟩ u).mono fun k e => by subst e; exact h
set_option maxRecDepth 100000 in
set_option maxHeartbeats 1000000 in
theorem addMulZ_any (p q r : Nat) (c : Int) (S : Nat → Prop) (v u : Value) (xs ys : List Int) (w : World) (h : spZ.own w S v xs) (hu : ∀ w', ChgS S w w' → spZ.rd w' u ys) (hl : ys.length = xs.length)
    (b1 : Num.BdN p xs) (b2 : c.natAbs ≤ q) (b3 : Num.BdN r ys) (b4 : p + q * r ≤ 4611686018427387904) :
    Calls Try.prog 110 #[v, .int .i64 c, u] w fun e w' => e = .returned (.tuple #[]) ∧ spZ.own w' S v (Num.addZ c xs ys) ∧ ChgS S w w' := by
  obtain ⟨A, cA, rfl, mA, -⟩ := spZ_form (spZ.own_rd h)
  obtain ⟨B, cB, rfl, -, -⟩ := spZ_form (hu w (ChgS.refl _ _))
  unfold maxLen at mA
  have h0 := Num.upto_zero (Num.addZF c xs ys) xs
  have hall := Num.upto_all (Num.addZF c xs ys) xs
  have HS : Hid (spZ.own w S (.slice A xs.length cA) (Num.upto (Num.addZF c xs ys) xs 0)) := Lib.hid (by rw [h0]; exact h)
  have HU := Lib.hid hu
  have HA := Lib.hid hall
  have HLEN := Lib.hid hl
  have HBD : Hid (∀ i, -4611686018427387904 ≤ c * ys.getD i 0 ∧ c * ys.getD i 0 ≤ 4611686018427387904 ∧ -4611686018427387904 ≤ xs.getD i 0 + c * ys.getD i 0 ∧ xs.getD i 0 + c * ys.getD i 0 ≤ 4611686018427387904) := Lib.hid fun i => by
    obtain ⟨e1, e2⟩ := Num.addZF_bd b1 b2 b3 i
    unfold Num.addZF at e2
    generalize q * r = Q at *
    generalize c * ys.getD i 0 = X at *
    omega
  clear h hu h0 hall hl b1 b2 b3 b4
  go_enter Try.func110, Try.ntmps110
  go_wp2_with (fail)
  go_loopw [9] (fun s wr => ∃ j : Nat, s = .int .i64 j ∧ j ≤ xs.length ∧ spZ.own wr S (.slice A xs.length cA) (Num.upto (Num.addZF c xs ys) xs j) ∧ ChgS S w wr) (fun s _ => xs.length - (intOf s).toNat)
  case atStart => exact ⟨0, rfl, by omega, HS.out, ChgS.refl _ _⟩
  case round =>
    obtain ⟨j, rfl, hj, own, chg⟩ := hrel
    clear HS
    by_cases hlt : j < xs.length
    · have hup := Num.upto_length (Num.addZF c xs ys) xs j
      have hgt := Num.upto_get (Num.addZF c xs ys) xs hlt
      obtain ⟨g, cg, e1, hSg, hgl, a0, f0⟩ := spZ_own_at own (j := j) (by omega)
      obtain ⟨g', o', rfl, hgl', d0⟩ := (by obtain ⟨B', c', e, _, hr⟩ := spZ_form (HU.out _ chg); simp only [Value.slice.injEq] at e; obtain ⟨rfl, -, -⟩ := e; exact hr j (by have := HLEN.out; omega) : ∃ g' o', B = some ⟨g', o', none⟩ ∧ g' < wr.heap.size ∧ wr.cell? ⟨g', o' + j, none⟩ = some (.int .i64 (ys.getD j 0)))
      simp only [Value.slice.injEq] at e1
      obtain ⟨rfl, -, rfl⟩ := e1
      rw [hgt] at a0
      have i0 : (0 : Int) ≤ (j : Int) := by omega
      have i1 : (j : Int) < (xs.length : Int) := by omega
      have i2 : (j : Int) < (ys.length : Int) := by have := HLEN.out; omega
      obtain ⟨m1, m2, m3, m4⟩ := HBD.out j
      have HST : Hid ((Num.upto (Num.addZF c xs ys) xs j).set j (xs.getD j 0 + c * ys.getD j 0) = Num.upto (Num.addZF c xs ys) xs (j + 1)) := Lib.hid (Num.upto_step (Num.addZF c xs ys) xs hlt)
      have HUL : Hid (j < (Num.upto (Num.addZF c xs ys) xs j).length) := Lib.hid (by omega)
      have HO := Lib.hid own
      have HCH := Lib.hid chg
      clear own hup hgt chg
      generalize xs.getD j 0 = x at *
      generalize ys.getD j 0 = y at *
      have HC := Lib.hid (fun W => timesZ_any c y W m1 m2)
      have HC2 := Lib.hid (fun W => plusZ_any x (c * y) W m3 m4)
      have hm : ∀ (a : Int) (W : World), (method 245 101 (.int .i64 a) "loop.example/g01076/impl.times").run Try.prog W = .ok (141, .int .i64 a) W := fun _ _ => by kernel_rfl
      have hm2 : ∀ (a : Int) (W : World), (method 245 101 (.int .i64 a) "loop.example/g01076/impl.plus").run Try.prog W = .ok (140, .int .i64 a) W := fun _ _ => by kernel_rfl
      go_wp2_with (fail)
      go_region_law (first | (go_simp; go_at_call 141; refine (HC.out _).mono ?_; rintro e w2 ⟨rfl, rfl⟩) | (go_simp; go_at_call 140; refine (HC2.out _).mono ?_; rintro e w3 ⟨rfl, rfl⟩))
      all_goals
        have O3 := spZ_set (spZ.own_drew HO.out) HUL.out (x + c * y)
        rw [HST.out] at O3
        have C3 := (HCH.out.trans (ChgS.of_below ((Below.refl _ _).drew))).trans (chg_set1 (w := wr.drew) (j := j) hSg (.int .i64 (x + c * y)))
        have HO3 := Lib.hid O3
        clear O3
        go_wp2_with (fail)
        exact ⟨⟨j + 1, by go_num, by omega, HO3.out, C3⟩, by simp [intOf]; omega⟩
    · have hge : ¬ ((j : Int) < (xs.length : Int)) := by omega
      obtain rfl : j = xs.length := by omega
      rw [HA.out] at own
      have HO := Lib.hid own
      clear own
      go_wp2_with (fail)
      go_end0
      exact ⟨rfl, HO.out, chg⟩
theorem Made.rowZ {w w' : World} {v : Value} {xs : List Int} {e : Ending} {base : Nat} (h1 : e = .returned v) (h2 : w'.ownsRow base 101 1 v xs.length (xs.map (Value.int .i64))) (hb : w.heap.size ≤ base) (h3 : Below w.heap.size w w') : Made spZ xs w e w' :=
  Made.of h1 (S := fun k => v.ownBlock = some k) ⟨ownsRow_base h2 (Nat.zero_le _), fun k h => h, fun k h => (World.ownsRow.lt h2 k h).2⟩ (fun k h => by have := (World.ownsRow.lt h2 k h).1; omega) h3
set_option maxRecDepth 100000 in
set_option maxHeartbeats 1000000 in
theorem cloneZ_any (v : Value) (xs : List Int) (w : World) (h : spZ.rd w v xs) (hl : xs.length ≤ 1000) :
    Calls Try.prog 109 #[v] w (Made spZ xs w) := by
  obtain ⟨A, c, rfl, hm, hr⟩ := spZ_form h
  obtain ⟨i0, hi, hz0, hz1, hz2⟩ := info_parts infoZ
  have qn : ∀ (W : World) (a : Option Addr) (n c n' c' : Nat), (binOp .eql 93 (.slice a n c) (.slice none n' c')).run Try.prog W = .ok (.bool a.isNone) W := fun W a n c n' c' => Lib.run_eql_slice_nil W _ _ a n c n' c' Try.underlying93
  cases A with
  | none =>
    obtain rfl : xs = [] := by
      cases xs with
      | nil => rfl
      | cons a l => obtain ⟨g, o, e, _⟩ := hr 0 (by simp); cases e
    clear h hr
    go_enter Try.func109, Try.ntmps109
    go_wp2_with (fail)
    go_ret
    exact Made.rowZ (base := w.heap.size) rfl (World.ownsRow_nil _ _ _ _) (Nat.le_refl _) (Below.refl _ _)
  | some a =>
    have h0 : (w.alloc (.cells #[] 101)).ownsRow w.heap.size 101 1 (.slice (some ⟨w.heap.size, 0, none⟩) 0 0) 0 [] := World.ownsRow_lit w #[] 0 (Nat.le_refl _) (by unfold maxLen; omega) rfl
    have b0 : Below w.heap.size w (w.alloc (.cells #[] 101)) := by go_grown
    have HC := Lib.hid (hr.below' b0).cells
    have HO := Lib.hid h0
    clear h0 h hr
    go_enter Try.func109, Try.ntmps109
    go_wp2_with (first | (at_builtin; refine wpList_append_list _ rfl _ _ 93 rfl w.heap.size 101 i0 (.int .i64 0) 8 Try.underlying93 hi hz0 hz1 hz2 rfl (.slice (some ⟨w.heap.size, 0, none⟩) 0 0) 0 [] rfl HO.out (some a) xs.length c (xs.map (Value.int .i64)) (by simp) rfl HC.out (oneCell_ints xs) (by unfold maxLen; omega) (by omega) (by go_size) ?_; intro v' w' own' gr' at'))
    have HO' : Hid (w'.ownsRow w.heap.size 101 1 v' xs.length (xs.map (Value.int .i64))) := Lib.hid (by simpa using own')
    have L : Below w.heap.size w w' := b0.grown gr' (by go_size) (fun k hk => by simp [Value.ownBlock] at hk; omega)
    clear own' gr' at'
    go_wp2_with (fail)
    go_ret
    exact Made.rowZ rfl HO'.out (Nat.le_refl _) L
set_option maxRecDepth 100000 in
set_option maxHeartbeats 1000000 in
theorem rowProductZ_any (n p q : Nat) (v0 v1 v2 : Value) (x : List Int) (R : List (List Int)) (w : World) (h0 : spZ.rd w v0 (List.replicate n 0)) (h1 : spZ.rd w v1 x) (h2 : spZZ.rd w v2 R)
    (hn : n ≤ 1000) (hl : x.length = R.length) (hx : x.length ≤ 100) (hr : ∀ j, j < R.length → (R.getD j []).length = n) (b1 : Num.BdN p x) (b2 : ∀ j, Num.BdN q (R.getD j [])) (b3 : 100 * (p * q) + p * q ≤ 4611686018427387904) :
    Calls Try.prog 93 #[v0, v1, v2] w (Made spZ (Num.rowZ n x R x.length) w) := by
  obtain ⟨A1, c1, rfl, m1, hx0⟩ := spZ_form h1
  obtain ⟨A2, c2, e2⟩ : ∃ A2 c2, v2 = .slice A2 R.length c2 := by obtain ⟨A2, c2, e, -⟩ := h2; exact ⟨A2, c2, e⟩
  subst e2
  have HCL := Lib.hid (cloneZ_any v0 _ w h0 (by simpa using hn))
  have HX := Lib.hid hx0
  have HR2 := Lib.hid h2
  have HRL := Lib.hid hr
  have HB : Hid (∀ k, k ≤ x.length → Num.BdN (100 * (p * q)) (Num.rowZ n x R k)) := Lib.hid fun k hk i => by
    have := Num.rowZ_bd (n := n) b1 b2 k i
    have h3 : k * (p * q) ≤ 100 * (p * q) := Nat.mul_le_mul_right _ (by omega)
    omega
  have HB1 := Lib.hid b1
  have HB2 := Lib.hid b2
  have HLE := Lib.hid hl
  have HRW : Hid (∀ k, (Num.rowZ n x R k).length = n) := Lib.hid (Num.rowZ_len n x R)
  have HST : Hid (∀ k, Num.rowZ n x R (k + 1) = Num.addZ (x.getD k 0) (Num.rowZ n x R k) (R.getD k [])) := Lib.hid fun k => rfl
  have HS0 : Hid (Num.rowZ n x R 0 = List.replicate n 0) := Lib.hid rfl
  clear h0 h1 h2 hr hl b1 b2 hx0
  go_enter Try.func93, Try.ntmps93
  go_wp2_with (fail)
  refine HCL.out.mono ?_; rintro e w1 ⟨u, S, rfl, ow, hS, hb⟩
  rw [← HS0.out] at ow
  have HO := Lib.hid ow
  have HSS := Lib.hid hS
  clear HCL ow hS HS0
  go_wp2_with (fail)
  go_loopw [14] (fun s wr => ∃ k : Nat, s = .int .i64 k ∧ k ≤ x.length ∧ Hid (spZ.own wr S u (Num.rowZ n x R k)) ∧ ChgS S w1 wr) (fun s _ => x.length - (intOf s).toNat)
  case atStart => exact ⟨0, rfl, by omega, HO, ChgS.refl _ _⟩
  case round =>
    obtain ⟨k, rfl, hk, HO2, chg⟩ := hrel
    have bw : Below w.heap.size w wr := hb.trans (chg.below HSS.out hb.size)
    by_cases hlt : k < x.length
    · obtain ⟨g, o, rfl, hg, hc⟩ := (HX.out.below' bw) k hlt
      obtain ⟨g2, o2, ur, rfl, hg2, hc20, hru⟩ := spL_row HR2.out (j := k) (by have := HLE.out; omega)
      obtain ⟨B, cB, rfl, -, -⟩ := spZ_form hru
      have hc2 : wr.cell? ⟨g2, o2 + k, none⟩ = some (.slice B (R.getD k []).length cB) := by rw [bw.cell hg2]; exact hc20
      have k0 : (0 : Int) ≤ (k : Int) := by omega
      have k1 : (k : Int) < (x.length : Int) := by omega
      have k2 : (k : Int) < (R.length : Int) := by have := HLE.out; omega
      have HRD : Hid (∀ w', ChgS S wr w' → spZ.rd w' (.slice B (R.getD k []).length cB) (R.getD k [])) := Lib.hid fun w' hc' => spZ.rd_below hru (bw.trans (hc'.below HSS.out bw.size))
      have HAM := Lib.hid (addMulZ_any (100 * (p * q)) p q (x.getD k 0) S u (.slice B (R.getD k []).length cB) (Num.rowZ n x R k) (R.getD k []) wr HO2.out HRD.out (by rw [HRW.out, HRL.out k (by have := HLE.out; omega)]) (HB.out k hk) (HB1.out k) (HB2.out k) b3)
      rw [← HST.out] at HAM
      clear HRD hru hc20
      generalize x.getD k 0 = X at *
      generalize (R.getD k []).length = nl at *
      go_wp2_with (fail)
      refine HAM.out.mono ?_; rintro e w3 ⟨rfl, ow3, ch3⟩
      have HO3 := Lib.hid ow3
      have C3 := chg.trans ch3
      clear ow3 ch3 HAM HO2
      go_wp2_with (fail)
      exact ⟨⟨k + 1, by go_num, by omega, HO3, C3⟩, by simp [intOf]; omega⟩
    · obtain rfl : k = x.length := by omega
      have hge : ¬ ((x.length : Int) < (x.length : Int)) := by omega
      go_wp2_with (fail)
      go_ret
      exact Made.of rfl HO2.out HSS.out bw
set_option maxHeartbeats 400000 in
theorem equalZ_any (v u : Value) (xs ys : List Int) (w : World) (h : spI.rd w v xs) (k : spI.rd w u ys) :
    Calls Try.prog 94 #[v, u] w fun e w' => e = .returned (.bool (decide (xs = ys))) ∧ Below w.heap.size w w' := by
  obtain ⟨A, c, rfl, mA, hA⟩ := h
  obtain ⟨B, d, rfl, mB, hB⟩ := k
  have HR := Lib.hid hA
  have HK := Lib.hid hB
  unfold maxLen at mA mB
  clear hA hB
  by_cases hl : xs.length = ys.length
  · have el : ((xs.length : Int) != (ys.length : Int)) = false := by simp [hl]
    have HL := Lib.hid hl
    have l1 : xs.length ≤ ys.length := by omega
    clear hl
    go_enter Try.func94, Try.ntmps94
    go_wp2_with (fail)
    go_loopw [13] (fun s wr => ∃ j n : Nat, s = .int .i64 j ∧ j ≤ xs.length ∧ Hid (∀ i, i < j → xs.getD i 0 = ys.getD i 0) ∧ wr = w.drewN n) (fun s _ => xs.length - (intOf s).toNat)
    case atStart => exact ⟨0, 0, rfl, by omega, Lib.hid fun i hi => by omega, rfl⟩
    case round =>
      obtain ⟨j, n, rfl, hj, hz, rfl⟩ := hrel
      clear el
      by_cases hlt : j < xs.length
      · obtain ⟨g, o, rfl, hg, hc⟩ := HR.out j hlt
        obtain ⟨g', o', rfl, hg', hc'⟩ := HK.out j (by omega)
        have i0 : (0 : Int) ≤ (j : Int) := by omega
        have i1 : (j : Int) < (xs.length : Int) := by omega
        have i2 : (j : Int) < (ys.length : Int) := by omega
        by_cases hy : xs.getD j 0 = ys.getD j 0
        · have HZ : Hid (∀ i, i < j + 1 → xs.getD i 0 = ys.getD i 0) := Lib.hid fun i hi => by
            by_cases e : i = j
            · rw [e]; exact hy
            · exact hz.out i (by omega)
          rw [← hy] at hc'
          clear hy
          generalize xs.getD j 0 = y at *
          go_wp2
          go_quiet (fail)
          go_wp2
          exact ⟨⟨j + 1, _, by go_num, by omega, HZ, rfl⟩, by simp [intOf]; omega⟩
        · have E : Hid (decide (xs = ys) = false) := Lib.hid (decide_eq_false fun e => hy (by rw [e]))
          have hy' : (xs.getD j 0 != ys.getD j 0) = true := bne_iff_ne.mpr hy
          clear hy
          generalize xs.getD j 0 = y at *
          generalize ys.getD j 0 = z at *
          go_wp2
          go_quiet (fail)
          go_wp2
          go_ret
          exact ⟨ret_b E.out.symm, by rw [World.drewN_drewN]; exact below_drewN (Below.refl _ _) _⟩
      · have hge : ¬ ((j : Int) < (xs.length : Int)) := by omega
        obtain rfl : j = xs.length := by omega
        have E : Hid (decide (xs = ys) = true) := Lib.hid (decide_eq_true (List.ext_getElem HL.out fun i h1 h2 => by have := hz.out i h1; simpa [h1, h2] using this))
        go_wp2_with (fail)
        go_ret
        exact ⟨ret_b E.out.symm, below_drewN (Below.refl _ _) _⟩
  · have el : ((xs.length : Int) != (ys.length : Int)) = true := by simp; omega
    have E : Hid (decide (xs = ys) = false) := Lib.hid (decide_eq_false fun e => hl (by rw [e]))
    clear hl
    go_enter Try.func94, Try.ntmps94
    go_wp2_with (fail)
    go_ret
    exact ⟨ret_b E.out.symm, Below.refl _ _⟩
end Go.Proofs.Ytihdidbikeaafaa
