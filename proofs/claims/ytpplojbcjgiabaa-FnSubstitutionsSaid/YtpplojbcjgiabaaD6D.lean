/- Draws of chapter 6: a word and the words that are put in the place of its letters. -/
import Derived.Test.YtpplojbcjgiabaaD6B
import Derived.Test.YtpplojbcjgiabaaKB
namespace Go.Proofs.Ytpplojbcjgiabaa
open Go.RowKit
set_option linter.unusedVariables false
set_option linter.unusedSimpArgs false

/-- w' is w but for v's block, the source's and new ones. -/
def OffQ (q : Nat) (w w' : World) (v : Value) : Prop := w.heap.size ≤ w'.heap.size ∧ ∀ k, k < w.heap.size → v.ownBlock ≠ some k → k ≠ q → w'.heap[k]? = w.heap[k]?
theorem OffQ.refl (q : Nat) (w : World) (v : Value) : OffQ q w w v := ⟨Nat.le_refl _, fun _ _ _ _ => rfl⟩
theorem OffQ.chg {q : Nat} {w w' : World} {v : Value} (h : ChgS (fun k => k = q) w w') : OffQ q w w' v := ⟨h.size, fun k hk _ hq => h.block k hk hq⟩
theorem OffQ.grown {q : Nat} {w w' : World} {v : Value} (h : w.grownBy w' v.ownBlock) : OffQ q w w' v := ⟨h.size, fun k hk hn _ => h.block k hk (Ne.symm hn)⟩
theorem OffQ.trans {q : Nat} {w w' w2 : World} {v v' : Value} (h : OffQ q w w' v) (k : OffQ q w' w2 v') (hv : v'.ownBlock = v.ownBlock ∨ ∀ g, v'.ownBlock = some g → w.heap.size ≤ g) : OffQ q w w2 v :=
  ⟨Nat.le_trans h.1 k.1, fun i hi hn hq => (k.2 i (by have := h.1; omega) (fun e => by
    rcases hv with hv | hv
    · exact hn (hv ▸ e)
    · have := hv i e; omega) hq).trans (h.2 i hi hn hq)⟩
/-- A list of the call's own whose words stay readable whatever is drawn. -/
def BagQ (q H : Nat) (w : World) (v : Value) (xs : List (List Int)) : Prop :=
  ∃ vs : List Value, w.ownsRow H 24 1 v xs.length vs ∧ ∀ j, j < xs.length → ∀ w', OffQ q w w' v → spI.rd w' (vs.getD j undef) (xs.getD j [])
theorem BagQ.rd {q H : Nat} {w : World} {v : Value} {xs : List (List Int)} (h : BagQ q H w v xs) : spII.rd w v xs := by
  obtain ⟨vs, h1, h2⟩ := h
  have hvl : vs.length = xs.length := by have := h1.1; simpa using this
  rcases h1.2 with ⟨rfl, h0⟩ | ⟨g, cap, cur, rfl, hb, hg, hn, hc, hs, ht⟩
  · refine ⟨none, 0, by rw [h0], by omega, fun j hj => by omega⟩
  · refine ⟨_, cap, rfl, by omega, fun j hj => ⟨g, 0, vs.getD j undef, rfl, (h1.lt g rfl).2, ?_, h2 j hj w (OffQ.refl _ _ _)⟩⟩
    rw [Nat.zero_add, h1.cellAt j (by omega), List.getD_eq_getElem?_getD, List.getElem?_eq_getElem (by omega)]
    rfl
theorem BagQ.chg {q H : Nat} {w w' : World} {v : Value} {xs : List (List Int)} (h : BagQ q H w v xs) (hc : ChgS (fun k => k = q) w w') (hq : q < H) : BagQ q H w' v xs := by
  obtain ⟨vs, h1, h2⟩ := h
  have hlt := h1.lt
  exact ⟨vs, ownsRow_keep h1 fun k e => hc.block k (hlt k e).2 (fun e2 => by have := (hlt k e).1; omega), fun j hj w2 hw => h2 j hj w2 ((OffQ.chg hc).trans hw (.inl rfl))⟩
theorem BagQ.form {q H : Nat} {w : World} {v : Value} {xs : List (List Int)} (h : BagQ q H w v xs) : ∃ A c, v = .slice A xs.length c := by
  obtain ⟨vs, h1, h2⟩ := h
  obtain ⟨A, cap, rfl, _⟩ := ownsRow_cap h1
  exact ⟨A, cap, rfl⟩
theorem BagQ.block {q H : Nat} {w : World} {v : Value} {xs : List (List Int)} (h : BagQ q H w v xs) : ∀ g, v.ownBlock = some g → H ≤ g ∧ g < w.heap.size := by
  obtain ⟨vs, h1, h2⟩ := h
  exact h1.lt
/-- One word more. -/
theorem BagQ.push {q H : Nat} {w : World} {v : Value} {xs : List (List Int)} (h : BagQ q H w v xs) : ∃ vs, w.ownsRow H 24 1 v xs.length vs ∧ ∀ (w1 w' : World) (v' u : Value) (x : List Int), ChgS (fun k => k = q) w w1 → (∀ w2, OffQ q w1 w2 v → spI.rd w2 u x) →
    w'.ownsRow H 24 1 v' (xs.length + 1) (vs ++ [u]) → w1.grownBy w' v.ownBlock → (v'.ownBlock = v.ownBlock ∨ ∀ g, v'.ownBlock = some g → w1.heap.size ≤ g) → BagQ q H w' v' (xs ++ [x]) := by
  obtain ⟨vs, h1, h2⟩ := h
  have hvl : vs.length = xs.length := by have := h1.1; simpa using this
  refine ⟨vs, h1, fun w1 w' v' u x h01 hu ho hg hv => ?_⟩
  have hs1 := h01.size
  refine ⟨vs ++ [u], by simpa using ho, fun j hj w2 hw2 => ?_⟩
  simp only [List.length_append, List.length_singleton] at hj
  by_cases hlt : j < xs.length
  · have e1 : (vs ++ [u]).getD j undef = vs.getD j undef := by rw [List.getD_eq_getElem?_getD, List.getElem?_append_left (by omega), ← List.getD_eq_getElem?_getD]
    have e2 : (xs ++ [x]).getD j [] = xs.getD j [] := by rw [List.getD_eq_getElem?_getD, List.getElem?_append_left (by omega), ← List.getD_eq_getElem?_getD]
    rw [e1, e2]
    refine h2 j hlt w2 (((OffQ.chg h01).trans (OffQ.grown hg) (.inl rfl)).trans hw2 ?_)
    rcases hv with h | h
    · exact .inl h
    · exact .inr fun g e => by have := h g e; omega
  · obtain rfl : j = xs.length := by omega
    have e1 : (vs ++ [u]).getD xs.length undef = u := by
      rw [List.getD_eq_getElem?_getD, List.getElem?_append_right (by omega), hvl]
      simp
    have e2 : (xs ++ [x]).getD xs.length [] = x := by simp [List.getD_eq_getElem?_getD]
    rw [e1, e2]
    exact hu w2 ((OffQ.grown hg).trans hw2 hv)
/-- A word of the call's own, made since. -/
theorem own_offQ {q b : Nat} {w1 : World} {u v : Value} {x : List Int} (own : OwnI w1 b u x) (hl : x.length ≤ maxLen) (hq : q < b) (hv : ∀ g, v.ownBlock = some g → g < b) : ∀ w2, OffQ q w1 w2 v → spI.rd w2 u x := fun w2 h =>
  spI.own_rd (spI_of (ownsRow_keep (w' := w2) own fun k e => by
    obtain ⟨k1, k2⟩ := World.ownsRow.lt own k e
    exact h.2 k k2 (fun e2 => by have := hv k e2; omega) (by omega)))
/-- A word, and words in the place of its letters, that came. -/
def SubstArgs (w : World) (e : Ending) (w' : World) : Prop :=
  ∃ k u a m v imgs b, e = .returned (.tuple #[.int .i64 k, u, .int .i64 m, v]) ∧ OwnI w' b u a ∧ a.length ≤ 300 ∧ spII.rd w' v imgs ∧ imgs.length ≤ 100 ∧ -1 ≤ m ∧ m ≤ 7 ∧ Below w.heap.size w w'
set_option maxRecDepth 100000 in
set_option maxHeartbeats 2000000 in
theorem drawSubst_any (A : Option Addr) (len cap : Nat) (w : World) (hB : RdB w w.heap.size A len) (hlen : len ≤ 4096) : Calls Try.prog 7 #[.slice A len cap] w (SubstArgs w) := by
  obtain ⟨iT, hi, hz0, hz1, hz2⟩ := info_parts infoS
  have HF := Lib.hid (from_any A len cap w hB hlen)
  clear hB
  go_enter Try.func7, Try.ntmps7
  go_wp2_with (fail)
  refine HF.out.mono ?_
  rintro e w1 ⟨rfl, hs1, bel1⟩
  have HN := Lib.hid (count_any w.heap.size A len cap w1 hs1)
  go_wp2_with (fail)
  refine HN.out.mono ?_
  rintro e w2 ⟨k, rfl, ⟨k0, k1⟩, hs2, hc2⟩
  have HM := Lib.hid (count_any w.heap.size A len cap w2 hs2)
  go_wp2_with (fail)
  refine HM.out.mono ?_
  rintro e w3 ⟨m, rfl, ⟨m0, m1⟩, hs3, hc3⟩
  have HA := Lib.hid (word_any w.heap.size A len cap k w3 hs3 k0 k1)
  have q3 := hs3.lt
  go_wp2_with (fail)
  refine HA.out.mono ?_
  rintro e w4 ⟨u, a, rfl, own4, ha, hs4, hc4⟩
  have q4 := hs4.lt
  have hcc : ChgS (fun k => k = w.heap.size) w1 w4 := (hc2.trans hc3).trans hc4
  have bel4 : Below w.heap.size w w4 := bel1.trans (hcc.below (B := w.heap.size) (fun k e => by omega) bel1.size)
  obtain ⟨U, cU, rfl⟩ := own4.form
  have hs5 := hs4.chg (S := fun _ => False) (chgS_alloc w4 (.cells #[] 24)) (fun k h => h.elim)
  have HBG : Hid (BagQ w.heap.size (w.heap.size + 1) (w4.alloc (.cells #[] 24)) (.slice (some ⟨w4.heap.size, 0, none⟩) 0 0) []) := Lib.hid ⟨[], by
    have := World.ownsRow_lit (e := 24) (size := 1) w4 #[] 0 (Nat.le_refl _) (by unfold maxLen; omega) rfl
    exact ownsRow_base this (by omega), fun j hj => by simp at hj⟩
  have HO := Lib.hid (own4.alloc (.cells #[] 24))
  have HCAP : Hid (∀ g, (Value.slice U a.length cU).ownBlock = some g → g < w4.heap.size) := Lib.hid fun g e => (World.ownsRow.lt own4 g e).2
  have HL := Lib.hid (bel4.alloc bel4.size (.cells #[] 24))
  have HS5 := Lib.hid hs5
  have z34 := hc4.size
  have z14 := hcc.size
  have z1 := bel1.size
  clear HF HN HM HA hs1 hs2 hs3 hs4 hs5 hc2 hc3 hc4 own4 bel1 bel4 hcc
  go_wp2_with (fail)
  go_loopw [10, 11] (fun s10 s11 wr => ∃ (i : Nat) (X : List (List Int)), s11 = .int .i64 (i : Int) ∧ i ≤ 7 ∧ X.length ≤ i ∧ Hid (BagQ w.heap.size (w.heap.size + 1) wr s10 X) ∧ Hid (SrcI wr w.heap.size A len cap) ∧ Hid (OwnI wr w3.heap.size (.slice U a.length cU) a) ∧ Hid (Below w.heap.size w wr) ∧ Hid (∀ g, s10.ownBlock = some g → w4.heap.size ≤ g) ∧ w4.heap.size ≤ wr.heap.size) (fun _ s11 _ => 8 - (intOf s11).toNat)
  case atStart => exact ⟨0, [], rfl, by omega, by simp, HBG, HS5, HO, HL, Lib.hid fun g e => by simp [Value.ownBlock] at e; omega, by simp⟩
  case round =>
    obtain ⟨i, X, rfl, hi7, hX, HB, HS, HOW, HLL, HG, hz4r⟩ := hrel
    clear HBG HS5 HO HL
    have hzr := HLL.out.size
    have hqr := HS.out.lt
    by_cases hlt : (i : Int) < k
    · have HW := Lib.hid (word_any w.heap.size A len cap m wr HS.out m0 m1)
      obtain ⟨A3, c3, rfl⟩ := HB.out.form
      go_wp2_with (fail)
      refine HW.out.mono ?_
      rintro e w5 ⟨u5, x, rfl, own5, hx, hs5, hc5⟩
      obtain ⟨U5, n5, c5, rfl, hn5⟩ := own5.formN
      obtain ⟨vs, hov, hpush⟩ := BagQ.push HB.out
      have hlov := hov.lt
      have hov5 : w5.ownsRow (w.heap.size + 1) 24 1 (.slice A3 X.length c3) X.length vs := ownsRow_keep hov fun k e => hc5.block k (hlov k e).2 (fun e2 => by have := (hlov k e).1; omega)
      have HPU := Lib.hid (fun w' v' => hpush (w5.alloc (.cells #[.slice U5 n5 c5] 24)) w' v' (.slice U5 n5 c5) x (hc5.trans (chgS_alloc _ _)) (by
        have := own_offQ (q := w.heap.size) (v := .slice A3 X.length c3) (own5.alloc (.cells #[.slice U5 n5 c5] 24)) (by unfold maxLen; omega) (by omega) (fun g e => (hlov g e).2)
        exact this))
      have HOW5 := Lib.hid (HOW.out.chgW hc5 (fun k e => by omega))
      have HL5 := Lib.hid (HLL.out.trans (hc5.below (B := w.heap.size) (fun k e => by omega) hzr))
      have HS5 := Lib.hid hs5
      have HN5 := Lib.hid hn5
      have HOV := Lib.hid hov5
      have z5 := hc5.size
      have HG5 := HG
      clear HW HB HS HOW HLL hpush hov hov5 own5 hs5 hc5 hn5 hx
      go_wp2_with (at_builtin; refine wpList_append_own_at _ rfl (.tmp 27) (.tmp 31) 25 rfl (w.heap.size + 1) 24 iT (.slice none 0 0) 1 24 Try.underlying25 hi hz0 hz1 hz2 rfl (by decide) _ _ _ rfl (HOV.out.alloc _) ⟨_, 0, none⟩ 1 1 [.slice U5 n5 c5] rfl rfl (cell_one_new _ _ _) (by simp [Value.oneCell']) (by unfold maxLen; omega) (by omega) (by simp only [World.size_alloc]; omega) ?_; intro v6 w6 hown6 hgrow6 _ hat6)
      have bq6 := HPU.out w6 v6 hown6 hgrow6 (by
        rcases hat6 with h | h
        · exact .inl h
        · exact .inr fun g e => by rw [h] at e; cases e; simp)
      have hs6 := (HS5.out.chg (S := fun _ => False) (chgS_alloc w5 (.cells #[.slice U5 n5 c5] 24)) (fun k h => h.elim)).chg (ChgS.of_grown (S := fun k => (Value.slice A3 X.length c3).ownBlock = some k) hgrow6 fun k e => e) (fun k e => by have := (World.ownsRow.lt HOV.out k e).1; omega)
      have how6 : OwnI w6 w3.heap.size (.slice U a.length cU) a := ownsRow_keep (HOW5.out.alloc (.cells #[.slice U5 n5 c5] 24)) fun g e => hgrow6.block g (World.ownsRow.lt (HOW5.out.alloc (.cells #[.slice U5 n5 c5] 24)) g e).2 (fun e2 => by
        have h1 := HG5.out g e2.symm
        have h2 := HCAP.out g e
        omega)
      have hl6 : Below w.heap.size w w6 := (HL5.out.alloc (by omega) _).grown hgrow6 (by simp; omega) (fun k hk => by have := (World.ownsRow.lt HOV.out k hk).1; omega)
      exact ⟨⟨i + 1, X ++ [x], by go_num, by omega, by simp; omega, Lib.hid bq6, Lib.hid hs6, Lib.hid how6, Lib.hid hl6, Lib.hid (fun g e => by
        rcases hat6 with h | h
        · exact HG5.out g (by rw [h] at e; exact e)
        · rw [h] at e; cases e; simp only [World.size_alloc]; omega), by have := hgrow6.size; simp only [World.size_alloc] at this; omega⟩, by simp [intOf]; omega⟩
    · have HN := Lib.hid (nextS w.heap.size A len cap 25 wr HS.out (by omega) (by omega))
      obtain ⟨A3, c3, rfl⟩ := HB.out.form
      go_wp2_with (fail)
      refine HN.out.mono ?_
      rintro e w5 ⟨r, rfl, ⟨r0, r1⟩, hs5, hc5⟩
      have hb5 := HB.out.chg hc5 (by omega)
      have how5 := HOW.out.chgW hc5 (fun k e => by omega)
      have hl5 : Below w.heap.size w w5 := HLL.out.trans (hc5.below (B := w.heap.size) (fun k e => by omega) hzr)
      have z5 := hc5.size
      by_cases h0 : r = 0
      · subst h0
        obtain ⟨vs, hov, hpush⟩ := BagQ.push hb5
        have hlov := hov.lt
        have own6 : OwnI (w5.alloc (.cells #[.int .i64 1] 2)) w5.heap.size (.slice (some ⟨w5.heap.size, 0, none⟩) 1 1) [1] := OwnI.lit w5 [1] (Nat.le_refl _) (by simp)
        have own7 := own6.alloc (.cells #[.slice (some ⟨w5.heap.size, 0, none⟩) 1 1] 24)
        have hov7 := (hov.alloc (.cells #[.int .i64 1] 2)).alloc (.cells #[.slice (some ⟨w5.heap.size, 0, none⟩) 1 1] 24)
        have how7 := (how5.alloc (.cells #[.int .i64 1] 2)).alloc (.cells #[.slice (some ⟨w5.heap.size, 0, none⟩) 1 1] 24)
        have HPU := Lib.hid (fun w' v' => hpush ((w5.alloc (.cells #[.int .i64 1] 2)).alloc (.cells #[.slice (some ⟨w5.heap.size, 0, none⟩) 1 1] 24)) w' v' (.slice (some ⟨w5.heap.size, 0, none⟩) 1 1) [1] ((chgS_alloc _ _).trans (chgS_alloc _ _)) (own_offQ (q := w.heap.size) (v := .slice A3 X.length c3) own7 (by unfold maxLen; simp) (by omega) (fun g e => (hlov g e).2)))
        have HOV := Lib.hid hov7
        have HOW7 := Lib.hid how7
        have HL7 := Lib.hid ((hl5.alloc (by omega) (.cells #[.int .i64 1] 2)).alloc (by simp; omega) (.cells #[.slice (some ⟨w5.heap.size, 0, none⟩) 1 1] 24))
        have HCL : ∀ (j : Nat) (u : Value), ([Value.slice (some ⟨w5.heap.size, 0, none⟩) 1 1] : List Value)[j]? = some u → ((w5.alloc (.cells #[.int .i64 1] 2)).alloc (.cells #[.slice (some ⟨w5.heap.size, 0, none⟩) 1 1] 24)).cell? ((⟨w5.heap.size + 1, 0, none⟩ : Addr).add j) = some u := by
          intro j u hj
          cases j with
          | zero =>
            simp only [List.getElem?_cons_zero, Option.some.injEq] at hj
            subst hj
            rw [Addr.add_lit]
            simp
          | succ j => simp at hj
        clear HN HB HS HOW HLL hb5 how5 hl5 hpush own6 own7 hov hov7 how7 hs5 hc5
        go_wp2_with (at_builtin; refine wpList_append_own_at _ rfl (.tmp 36) (.tmp 38) 25 rfl (w.heap.size + 1) 24 iT (.slice none 0 0) 1 24 Try.underlying25 hi hz0 hz1 hz2 rfl (by decide) _ _ _ rfl HOV.out ⟨w5.heap.size + 1, 0, none⟩ 1 1 [.slice (some ⟨w5.heap.size, 0, none⟩) 1 1] rfl rfl HCL (by simp [Value.oneCell']) (by unfold maxLen; omega) (by omega) (by simp only [World.size_alloc]; omega) ?_; intro v6 w6 hown6 hgrow6 _ hat6)
        have bq6 := HPU.out w6 v6 hown6 hgrow6 (by
          rcases hat6 with h | h
          · exact .inl h
          · exact .inr fun g e => by rw [h] at e; cases e; simp)
        have how6 : OwnI w6 w3.heap.size (.slice U a.length cU) a := ownsRow_keep HOW7.out fun g e => hgrow6.block g (World.ownsRow.lt HOW7.out g e).2 (fun e2 => by
          have h1 := HG.out g e2.symm
          have h2 := HCAP.out g e
          omega)
        have hl6 : Below w.heap.size w w6 := HL7.out.grown hgrow6 (by simp; omega) (fun k hk => by have := (World.ownsRow.lt HOV.out k hk).1; omega)
        refine bodyPost_ret (v := .tuple #[.int .i64 k, .slice U a.length cU, .int .i64 m, v6]) (by simp [results, Try.results7, go_sem]) rfl ?_
        exact ⟨k, _, a, m, _, X ++ [[1]], w3.heap.size, rfl, how6, ha, bq6.rd, by simp; omega, m0, m1, hl6⟩
      · have T1 : (r == 0) = false := by simpa using h0
        go_wp2_with (fail)
        refine bodyPost_ret (v := .tuple #[.int .i64 k, .slice U a.length cU, .int .i64 m, .slice A3 X.length c3]) (by simp [results, Try.results7, go_sem]) rfl ?_
        exact ⟨k, _, a, m, _, X, w3.heap.size, rfl, how5, ha, hb5.rd, by omega, m0, m1, hl5⟩
end Go.Proofs.Ytpplojbcjgiabaa
