/- Draws of chapter 6: a number of generators, letters, words, two words. -/
import Derived.Test.YtpplojbcjgiabaaL10C
import Derived.Test.YtpplojbcjgiabaaL10F
import Derived.Test.YtpplojbcjgiabaaDrT
namespace Go.Proofs.Ytpplojbcjgiabaa
open Go.RowKit
set_option linter.unusedVariables false
set_option linter.unusedSimpArgs false

set_option maxRecDepth 100000 in
set_option maxHeartbeats 1000000 in
theorem sInvertG_any (A : Option Addr) (n c : Nat) (xs : List Int) (w : World) (h : RdI w A xs) (hn : xs.length = n) (hl : xs.length ≤ 1000000) (hs : ∀ z ∈ xs, -7 ≤ z ∧ z ≤ 7) :
    Calls Try.prog 58 #[.slice A n c] w fun e w' => ∃ v, e = .returned v ∧ OwnI w' w.heap.size v (Num.invW xs) ∧ Below w.heap.size w w' := by
  subst hn
  obtain ⟨i0, hi, hz0, hz1, hz2⟩ := info_parts infoI
  have w9 : IntKind.i64.wrap ((xs.length : Int) - 1) = (xs.length : Int) - 1 := IntWalk.i64_in _ (by omega)
  go_enter Try.func58, Try.ntmps58
  go_wp2_with (fail)
  go_loopw [3, 4] (fun s3 s4 wr => ∃ t : Nat, t ≤ xs.length ∧ s4 = .int .i64 ((xs.length : Int) - 1 - (t : Int)) ∧ OwnI wr w.heap.size s3 ((Num.invW xs).take t) ∧ Below w.heap.size w wr) (fun _ s4 _ => (intOf s4 + 1).toNat)
  case atStart => exact ⟨0, by omega, by simp, World.ownsRow_lit w #[] 0 (Nat.le_refl _) (by unfold maxLen; omega) rfl, by go_grown⟩
  case round =>
    obtain ⟨t, ht, rfl, own, bw⟩ := hrel
    have Z := bw.size
    by_cases hlt : t < xs.length
    · obtain ⟨g, o, rfl, hg, hc⟩ := (h.below' bw) (xs.length - 1 - t) (by omega)
      have HST := Lib.hid (Num.invW_take xs t hlt)
      have hsx : -7 ≤ xs.getD (xs.length - 1 - t) 0 ∧ xs.getD (xs.length - 1 - t) 0 ≤ 7 := by
        rw [List.getD_eq_getElem?_getD, List.getElem?_eq_getElem (by omega)]
        exact hs _ (List.getElem_mem _)
      have hol : ((Num.invW xs).take t).length ≤ 1000000 := by rw [List.length_take]; omega
      generalize xs.getD (xs.length - 1 - t) 0 = x at hc HST hsx
      generalize (Num.invW xs).take t = out at own HST hol
      have q0 : (0 : Int) ≤ (xs.length : Int) - 1 - (t : Int) := by omega
      have q1 : (xs.length : Int) - 1 - (t : Int) < (xs.length : Int) := by omega
      have q2 : ((xs.length : Int) - 1 - (t : Int)).toNat = xs.length - 1 - t := by omega
      have q3 : IntKind.i64.wrap ((xs.length : Int) - 1 - (t : Int) - 1) = (xs.length : Int) - 1 - (t : Int) - 1 := IntWalk.i64_in _ (by omega)
      have q4 : IntKind.i64.wrap (-x) = -x := IntWalk.i64_in _ (by omega)
      obtain ⟨A3, c3, rfl⟩ := own.form
      go_wp2_with (at_builtin; refine wpList_append_own_at _ rfl (.tmp 13) (.tmp 19) 24 rfl w.heap.size 2 i0 (.int .i64 0) 1 8 Try.underlying24 hi hz0 hz1 hz2 rfl (by decide) _ _ _ rfl (own.alloc _) ⟨_, 0, none⟩ 1 1 [.int .i64 (-x)] rfl rfl (cell_one_new _ _ _) (by simp [Value.oneCell']) (by unfold maxLen; omega) (by omega) (by go_size) ?_; intro v1 w1 hown1 hgrow1 _ hat1)
      obtain ⟨p1, p2⟩ := push_post own bw hown1 hgrow1
      exact ⟨⟨t + 1, by omega, by congr 1; omega, by rw [HST.out]; exact p1, p2⟩, by simp [intOf]; omega⟩
    · obtain rfl : t = xs.length := by omega
      have q0 : ¬ ((0 : Int) ≤ (xs.length : Int) - 1 - (xs.length : Int)) := by omega
      rw [List.take_of_length_le (by rw [Num.invW_len]; omega)] at own
      go_wp2_with (fail)
      go_ret
      exact ⟨_, rfl, own, bw⟩

/-- One of several numbers of a slice. -/
theorem pickW (q : Nat) (A B : Option Addr) (len cap c n : Nat) (xs : List Int) (w : World) (hs : SrcI w q A len cap) (hx : RdI w B xs) (hn : xs.length = n) (hB : ∀ g o, B = some ⟨g, o, none⟩ → g ≠ q) (h2 : 2 ≤ xs.length) (h3 : xs.length ≤ 1000000) :
    Calls Try.prog 56 #[.pointer (some ⟨q, 0, none⟩), .slice B n c] w (DrawnS w q A len cap fun r => r ∈ xs) := by
  subst hn
  have hq := hs.lt
  go_enter Try.func56, Try.ntmps56
  go_wp2_with (fail)
  refine (next_any q A len cap _ _ hs (by omega) (by omega)).mono ?_
  rintro e w1 ⟨r, rfl, ⟨r0, r1⟩, hs1, hg1⟩
  obtain ⟨i, rfl⟩ := Int.eq_ofNat_of_zero_le r0
  obtain ⟨g, o, rfl, hg, hc⟩ := (hx.grown hg1 (fun g o e he => hB g o e (by simpa using he))) i (by omega)
  have i0 : (0 : Int) ≤ (i : Int) := by omega
  have i1 : (i : Int) < (xs.length : Int) := by omega
  have hm : Hid (∀ x, some (Value.int .i64 x) = some (Value.int .i64 (xs.getD i 0)) → x ∈ xs) := Lib.hid fun x e => by
    simp only [Option.some.injEq, Value.int.injEq, true_and] at e
    rw [e, List.getD_eq_getElem?_getD, List.getElem?_eq_getElem (by omega)]; exact List.getElem_mem _
  go_wp2_with (fail)
  go_ret
  exact ⟨_, rfl, hm.out _ rfl, hs1, ChgS.of_grown hg1 fun k e => (Option.some.inj e).symm⟩
/-- A list drawn in memory of the call's own. -/
def DrawnW (w : World) (q : Nat) (A : Option Addr) (len cap : Nat) (R : List Int → Prop) (e : Ending) (w' : World) : Prop :=
  ∃ u x, e = .returned u ∧ OwnI w' w.heap.size u x ∧ R x ∧ SrcI w' q A len cap ∧ ChgS (fun k => k = q) w w'
theorem OwnI.chgW {S : Nat → Prop} {w w' : World} {base : Nat} {v : Value} {xs : List Int} (h : OwnI w base v xs) (hc : ChgS S w w') (hS : ∀ k, S k → k < base) : OwnI w' base v xs :=
  ownsRow_keep h fun k e => by
    obtain ⟨h1, h2⟩ := World.ownsRow.lt h k e
    exact hc.block k h2 (fun hk => by have := hS k hk; omega)
theorem DrawnW.up {w w1 w' : World} {q : Nat} {A : Option Addr} {len cap : Nat} {R Q : List Int → Prop} {e : Ending} (h : DrawnW w1 q A len cap R e w') (hc : ChgS (fun k => k = q) w w1) (hR : ∀ x, R x → Q x) : DrawnW w q A len cap Q e w' := by
  obtain ⟨u, x, h1, h2, h3, h4, h5⟩ := h
  exact ⟨u, x, h1, h2.base_ hc.size, hR x h3, h4, hc.trans h5⟩
def Lets (n : Nat) (x : List Int) : Prop := x.length ≤ n ∧ ∀ z ∈ x, -7 ≤ z ∧ z ≤ 7
theorem Lets.mono {n m : Nat} {x : List Int} (h : Lets n x) (hm : n ≤ m) : Lets m x := ⟨Nat.le_trans h.1 hm, h.2⟩
theorem count_any (q : Nat) (A : Option Addr) (len cap : Nat) (w : World) (hs : SrcI w q A len cap) :
    Calls Try.prog 25 #[.pointer (some ⟨q, 0, none⟩)] w (DrawnS w q A len cap fun r => -1 ≤ r ∧ r ≤ 7) := by
  have hq := hs.lt
  have HN := Lib.hid (nextS q A len cap 20 w hs (by omega) (by omega))
  go_enter Try.func25, Try.ntmps25
  go_wp2_with (fail)
  refine HN.out.mono ?_
  rintro e w1 ⟨r, rfl, ⟨r0, r1⟩, hs1, hc1⟩
  clear HN
  by_cases h0 : r = 0
  · subst h0
    have hs2 := hs1.chg (S := fun _ => False) (chgS_alloc w1 (.cells #[.int .i64 0, .int .i64 (-1), .int .i64 6, .int .i64 7] 2)) (fun k h => h.elim)
    have HP := Lib.hid (pickW q A (some ⟨w1.heap.size, 0, none⟩) len cap 4 4 [0, -1, 6, 7] _ hs2 (RdI.lit w1 [0, -1, 6, 7]) rfl (fun g o e => by simp at e; have := hs1.lt; omega) (by simp) (by simp))
    have HC := Lib.hid (hc1.trans (chgS_alloc (S := fun k => k = q) w1 (.cells #[.int .i64 0, .int .i64 (-1), .int .i64 6, .int .i64 7] 2)))
    go_wp2_with (fail)
    refine HP.out.mono ?_
    rintro e w2 ⟨r, rfl, hr, hs3, hc3⟩
    have hb : -1 ≤ r ∧ r ≤ 7 := by
      simp only [List.mem_cons, List.not_mem_nil, or_false] at hr
      omega
    go_wp2_with (fail)
    go_ret
    exact ⟨r, rfl, hb, hs3, HC.out.trans hc3⟩
  · have T1 : (r == 0) = false := by simpa using h0
    have HP := Lib.hid (nextS q A len cap 3 w1 hs1 (by omega) (by omega))
    clear h0
    go_wp2_with (fail)
    refine HP.out.mono ?_
    rintro e w2 ⟨r2, rfl, ⟨r3, r4⟩, hs3, hc3⟩
    have w9 : IntKind.i64.wrap (1 + r2) = 1 + r2 := IntWalk.i64_in _ (by omega)
    go_wp2_with (fail)
    go_ret
    exact ⟨1 + r2, rfl, ⟨by omega, by omega⟩, hs3, hc1.trans hc3⟩
set_option maxRecDepth 100000 in
set_option maxHeartbeats 1000000 in
theorem letters_any (q : Nat) (A : Option Addr) (len cap : Nat) (k n : Int) (w : World) (hs : SrcI w q A len cap) (hk : k ≤ 7) (hn : n ≤ 100) :
    Calls Try.prog 57 #[.pointer (some ⟨q, 0, none⟩), .int .i64 k, .int .i64 n] w (DrawnW w q A len cap (Lets 100)) := by
  obtain ⟨iT, hi, hz0, hz1, hz2⟩ := info_parts infoI
  have hq := hs.lt
  have h0 : OwnI (w.alloc (.cells #[] 2)) w.heap.size (.slice (some ⟨w.heap.size, 0, none⟩) 0 0) [] := World.ownsRow_lit w #[] 0 (Nat.le_refl _) (by unfold maxLen; omega) rfl
  have HS0 := Lib.hid (hs.chg (S := fun k => False) (chgS_alloc w (.cells #[] 2)) (fun k h => h.elim))
  have HC0 : Hid (ChgS (fun k => k = q) w (w.alloc (.cells #[] 2))) := Lib.hid (chgS_alloc w _)
  have H0 := Lib.hid h0
  clear h0 hs
  go_enter Try.func57, Try.ntmps57
  go_wp2_with (fail)
  go_loopw [7, 8] (fun s7 s8 wr => ∃ (i : Nat) (X : List Int), s8 = .int .i64 i ∧ i ≤ 100 ∧ Hid (Lets i X) ∧ Hid (OwnI wr w.heap.size s7 X) ∧ Hid (SrcI wr q A len cap) ∧ Hid (ChgS (fun k => k = q) w wr)) (fun _ s8 _ => 100 - (intOf s8).toNat)
  case atStart => exact ⟨0, [], rfl, by omega, Lib.hid ⟨by simp, fun z hz => by simp at hz⟩, H0, HS0, HC0⟩
  case round =>
    obtain ⟨i, X, rfl, hin, HV, HO, HS, HC⟩ := hrel
    clear H0 HS0 HC0
    by_cases hlt : (i : Int) < n
    · by_cases hk0 : 0 < k
      · have T1 : decide ((i : Int) < n) = true := decide_eq_true hlt
        have T2 : decide (0 < k) = true := decide_eq_true hk0
        have HN := Lib.hid (nextS q A len cap k wr HS.out (by omega) (by omega))
        have xl1 : X.length ≤ i := HV.out.1
        obtain ⟨U, cU, rfl⟩ := HO.out.form
        clear HS
        go_wp2_with (fail)
        refine HN.out.mono ?_
        rintro e w1 ⟨r, rfl, ⟨r0, r1⟩, hs1, hc1⟩
        have wp1 : IntKind.i64.wrap (1 + r) = 1 + r := IntWalk.i64_in _ (by omega)
        have wp2 : IntKind.i64.wrap (-(1 + r)) = -(1 + r) := IntWalk.i64_in _ (by omega)
        have HN2 := Lib.hid (nextS q A len cap 2 w1 hs1 (by omega) (by omega))
        have HO1 := Lib.hid (HO.out.chgW hc1 (fun k e => by omega))
        have HC1 := Lib.hid (HC.out.trans hc1)
        clear HN HO HC hs1 hc1
        go_wp2_with (fail)
        refine HN2.out.mono ?_
        rintro e w2 ⟨r2, rfl, ⟨r3, r4⟩, hs2, hc2⟩
        have HO2 := Lib.hid (HO1.out.chgW hc2 (fun k e => by omega))
        have HC2 := Lib.hid (HC1.out.trans hc2)
        have HB := Lib.hid HO2.out.base_le
        have HS2 := Lib.hid hs2
        have hz := HC2.out.size
        clear HN2 HO1 HC1 hs2 hc2
        obtain ⟨y, hy, HR⟩ : ∃ y : Int, (-7 ≤ y ∧ y ≤ 7) ∧ Hid (y = if r2 = 0 then -(1 + r) else 1 + r) := ⟨if r2 = 0 then -(1 + r) else 1 + r, by split <;> omega, Lib.hid rfl⟩
        have HV2 : Hid (Lets (i + 1) (X ++ [y])) := Lib.hid ⟨by simp; omega, fun z hz => by
          rcases List.mem_append.mp hz with h | h
          · exact HV.out.2 z h
          · simp at h; omega⟩
        by_cases h2 : r2 = 0
        · subst h2
          have ey : y = -(1 + r) := by rw [HR.out]; simp
          subst ey
          clear HR HV
          go_wp2_with (first | (at_builtin; refine wpList_append_own_at _ rfl (.tmp 29) (.tmp 31) 24 rfl w.heap.size 2 iT (.int .i64 0) 1 8 Try.underlying24 hi hz0 hz1 hz2 rfl (by decide) _ _ _ rfl (HO2.out.alloc _) ⟨_, 0, none⟩ 1 1 [.int .i64 (-(1 + r))] rfl rfl (cell_one_new _ _ _) (by simp [Value.oneCell']) (by unfold maxLen; omega) (by omega) (by simp; omega) ?_; intro v3 w3 own3 gr3 _ at3))
          have hc3 : ChgS (fun k => (Value.slice U X.length cU).ownBlock = some k) (w2.alloc (.cells #[.int .i64 (-(1 + r))] 2)) w3 := ChgS.of_grown gr3 fun k e => e
          have hs3 := (HS2.out.chg (S := fun k => False) (chgS_alloc w2 (.cells #[.int .i64 (-(1 + r))] 2)) (fun k h => h.elim)).chg hc3 (fun k e => by have := HB.out k e; omega)
          have HC3 := Lib.hid ((HC2.out.on (chgS_alloc (S := fun _ => False) w2 (.cells #[.int .i64 (-(1 + r))] 2)) (fun k h => h.elim)).on hc3 (fun k e => .inr (HB.out k e)))
          have HS3 := Lib.hid hs3
          exact ⟨⟨i + 1, X ++ [-(1 + r)], by go_num, by omega, HV2, Lib.hid (OwnI.snoc own3), HS3, HC3⟩, by simp [intOf]; omega⟩
        · have ey : y = 1 + r := by rw [HR.out, if_neg h2]
          subst ey
          have T3 : (r2 == 0) = false := by simpa using h2
          clear HR HV h2
          go_wp2_with (first | (at_builtin; refine wpList_append_own_at _ rfl (.tmp 29) (.tmp 31) 24 rfl w.heap.size 2 iT (.int .i64 0) 1 8 Try.underlying24 hi hz0 hz1 hz2 rfl (by decide) _ _ _ rfl (HO2.out.alloc _) ⟨_, 0, none⟩ 1 1 [.int .i64 (1 + r)] rfl rfl (cell_one_new _ _ _) (by simp [Value.oneCell']) (by unfold maxLen; omega) (by omega) (by simp; omega) ?_; intro v3 w3 own3 gr3 _ at3))
          have hc3 : ChgS (fun k => (Value.slice U X.length cU).ownBlock = some k) (w2.alloc (.cells #[.int .i64 (1 + r)] 2)) w3 := ChgS.of_grown gr3 fun k e => e
          have hs3 := (HS2.out.chg (S := fun k => False) (chgS_alloc w2 (.cells #[.int .i64 (1 + r)] 2)) (fun k h => h.elim)).chg hc3 (fun k e => by have := HB.out k e; omega)
          have HC3 := Lib.hid ((HC2.out.on (chgS_alloc (S := fun _ => False) w2 (.cells #[.int .i64 (1 + r)] 2)) (fun k h => h.elim)).on hc3 (fun k e => .inr (HB.out k e)))
          have HS3 := Lib.hid hs3
          exact ⟨⟨i + 1, X ++ [1 + r], by go_num, by omega, HV2, Lib.hid (OwnI.snoc own3), HS3, HC3⟩, by simp [intOf]; omega⟩
      · have T1 : decide ((i : Int) < n) = true := decide_eq_true hlt
        have T2 : decide (0 < k) = false := decide_eq_false hk0
        obtain ⟨U, cU, rfl⟩ := HO.out.form
        go_wp2_with (fail)
        go_ret
        exact ⟨_, X, rfl, HO.out, HV.out.mono hin, HS.out, HC.out⟩
    · have T1 : decide ((i : Int) < n) = false := decide_eq_false hlt
      obtain ⟨U, cU, rfl⟩ := HO.out.form
      go_wp2_with (fail)
      go_ret
      exact ⟨_, X, rfl, HO.out, HV.out.mono hin, HS.out, HC.out⟩
end Go.Proofs.Ytpplojbcjgiabaa
