/- Draws of chapter 6: a word, two words. -/
import Derived.Test.YtpplojbcjgiabaaD6A
namespace Go.Proofs.Ytpplojbcjgiabaa
open Go.RowKit
set_option linter.unusedVariables false
set_option linter.unusedSimpArgs false

theorem invW_lets {n : Nat} {x : List Int} (h : Lets n x) : Lets n (Num.invW x) := by
  refine ⟨by rw [Num.invW_len]; exact h.1, fun z hz => ?_⟩
  simp only [Num.invW, List.mem_reverse, List.mem_map] at hz
  obtain ⟨y, hy, rfl⟩ := hz
  have := h.2 y hy
  omega
set_option maxRecDepth 100000 in
set_option maxHeartbeats 2000000 in
theorem word_any (q : Nat) (A : Option Addr) (len cap : Nat) (k : Int) (w : World) (hs : SrcI w q A len cap) (hk0 : -1 ≤ k) (hk : k ≤ 7) :
    Calls Try.prog 26 #[.pointer (some ⟨q, 0, none⟩), .int .i64 k] w (DrawnW w q A len cap fun x => x.length ≤ 300) := by
  obtain ⟨iT, hi, hz0, hz1, hz2⟩ := info_parts infoI
  have hq := hs.lt
  have HN := Lib.hid (nextS q A len cap 25 w hs (by omega) (by omega))
  clear hs
  go_enter Try.func26, Try.ntmps26
  go_wp2_with (fail)
  refine HN.out.mono ?_
  rintro e w1 ⟨r, rfl, ⟨r0, r1⟩, hs1, hc1⟩
  clear HN
  have hz1' := hc1.size
  by_cases h0 : r = 0
  · subst h0
    have HP := Lib.hid (nextS q A len cap 5 w1 hs1 (by omega) (by omega))
    go_wp2_with (fail)
    refine HP.out.mono ?_
    rintro e w2 ⟨r2, rfl, ⟨r3, r4⟩, hs2, hc2⟩
    have HL := Lib.hid (letters_any q A len cap k r2 w2 hs2 hk (by omega))
    clear HP
    go_wp2_with (fail)
    refine HL.out.mono ?_
    rintro e w3 ⟨u, x, rfl, own3, hx, hs3, hc3⟩
    obtain ⟨U, cU, rfl⟩ := own3.form
    have a1 : IntKind.i64.wrap (k + 1) = k + 1 := IntWalk.i64_in _ (by omega)
    have a2 : IntKind.i64.wrap (-k) = -k := IntWalk.i64_in _ (by omega)
    have a3 : IntKind.i64.wrap (-k - 1) = -k - 1 := IntWalk.i64_in _ (by omega)
    have hs3' := hs3.chg (S := fun _ => False) (chgS_alloc w3 (.cells #[.int .i64 0, .int .i64 (k + 1), .int .i64 (-k - 1)] 2)) (fun k h => h.elim)
    have HK := Lib.hid (pickW q A (some ⟨w3.heap.size, 0, none⟩) len cap 3 3 [0, k + 1, -k - 1] _ hs3' (RdI.lit w3 [0, k + 1, -k - 1]) rfl (fun g o e => by simp at e; have := hs3.lt; omega) (by simp) (by simp))
    have HC3 := Lib.hid (((hc1.trans hc2).trans hc3).trans (chgS_alloc (S := fun k => k = q) w3 (.cells #[.int .i64 0, .int .i64 (k + 1), .int .i64 (-k - 1)] 2)))
    have ho3 := own3.alloc (.cells #[.int .i64 0, .int .i64 (k + 1), .int .i64 (-k - 1)] 2)
    have hx1 := hx.1
    have hq2 : q < w2.heap.size := by have := hc2.size; omega
    have z12 := hc2.size
    have z23 := hc3.size
    clear HL hc1 hc2 hc3 hs2 hs3 hs1 own3 hx
    go_wp2_with (fail)
    refine HK.out.mono ?_
    rintro e w4 ⟨y, rfl, hy, hs4, hc4⟩
    have HO4 := Lib.hid ((ho3.chgW hc4 (fun k e => by omega)).base_ (b' := w2.heap.size) (Nat.le_refl _))
    have HC4 := Lib.hid (HC3.out.trans hc4)
    have HS4 := Lib.hid hs4
    have HB := Lib.hid HO4.out.base_le
    have hz4 := hc4.size
    simp only [World.size_alloc] at hz4
    have hz34 : w2.heap.size ≤ w4.heap.size := by omega
    clear HK HC3 ho3 hs4 hc4 hy
    go_wp2_with (first | (at_builtin; refine wpList_append_own_at _ rfl (.tmp 14) (.tmp 23) 24 rfl w2.heap.size 2 iT (.int .i64 0) 1 8 Try.underlying24 hi hz0 hz1 hz2 rfl (by decide) _ _ _ rfl (HO4.out.alloc _) ⟨_, 0, none⟩ 1 1 [.int .i64 y] rfl rfl (cell_one_new _ _ _) (by simp [Value.oneCell']) (by unfold maxLen; omega) (by omega) (by simp; omega) ?_; intro v5 w5 own5 gr5 _ at5))
    go_ret
    have hc5 : ChgS (fun k => (Value.slice U x.length cU).ownBlock = some k) (w4.alloc (.cells #[.int .i64 y] 2)) w5 := ChgS.of_grown gr5 fun k e => e
    have hs5 := (HS4.out.chg (S := fun k => False) (chgS_alloc w4 (.cells #[.int .i64 y] 2)) (fun k h => h.elim)).chg hc5 (fun k e => by have := HB.out k e; omega)
    refine ⟨v5, x ++ [y], rfl, (OwnI.snoc own5).base_ (by omega), by simp; omega, hs5, ?_⟩
    exact (HC4.out.on (chgS_alloc (S := fun _ => False) w4 (.cells #[.int .i64 y] 2)) (fun k h => h.elim)).on hc5 (fun k e => .inr (by have := HB.out k e; omega))
  · have T0 : (r == 0) = false := by simpa using h0
    by_cases h1 : r = 1
    · subst h1
      have hs2 := hs1.chg (S := fun _ => False) (chgS_alloc w1 (.cells #[.int .i64 63, .int .i64 64, .int .i64 65] 2)) (fun k h => h.elim)
      have HK := Lib.hid (pickW q A (some ⟨w1.heap.size, 0, none⟩) len cap 3 3 [63, 64, 65] _ hs2 (RdI.lit w1 [63, 64, 65]) rfl (fun g o e => by simp at e; have := hs1.lt; omega) (by simp) (by simp))
      have HC := Lib.hid (hc1.trans (chgS_alloc (S := fun k => k = q) w1 (.cells #[.int .i64 63, .int .i64 64, .int .i64 65] 2)))
      go_wp2_with (fail)
      refine HK.out.mono ?_
      rintro e w2 ⟨n, rfl, hn, hs3, hc3⟩
      have hn2 : n ≤ 100 := by
        simp only [List.mem_cons, List.not_mem_nil, or_false] at hn
        omega
      have HL := Lib.hid ((letters_any q A len cap k n w2 hs3 hk hn2))
      have HC2 := Lib.hid (HC.out.trans hc3)
      clear HK HC hn hs3 hc3 hs2 hs1 hc1
      go_wp2_with (fail)
      refine HL.out.mono ?_
      intro e w3 hh
      obtain ⟨u, x, rfl, own3, hx, hs4, hc4⟩ := hh.up HC2.out (Q := fun x => x.length ≤ 300) (fun x h => by have := h.1; omega)
      go_wp2_with (fail)
      go_ret
      exact ⟨u, x, rfl, own3, hx, hs4, hc4⟩
    · have T1 : (r == 1) = false := by simpa using h1
      have HP := Lib.hid (nextS q A len cap 9 w1 hs1 (by omega) (by omega))
      by_cases h2 : r = 2 ∨ r = 3
      · have HW : Hid (∀ (w2 : World) (r2 : Int), 0 ≤ r2 → r2 < 9 → SrcI w2 q A len cap → Calls Try.prog 57 #[.pointer (some ⟨q, 0, none⟩), .int .i64 k, .int .i64 r2] w2 (DrawnW w2 q A len cap (Lets 100))) := Lib.hid fun w2 r2 a b hs2 => letters_any q A len cap k r2 w2 hs2 hk (by omega)
        rcases h2 with rfl | rfl
        all_goals
          clear h0 h1
          go_wp2_with (fail)
          refine HP.out.mono ?_
          rintro e w2 ⟨r2, rfl, ⟨r3, r4⟩, hs2, hc2⟩
          have HL := Lib.hid (HW.out w2 r2 r3 r4 hs2)
          go_wp2_with (fail)
          refine HL.out.mono ?_
          rintro e w3 ⟨u, x, rfl, own3, hx, hs3, hc3⟩
          obtain ⟨U, cU, rfl⟩ := own3.form
          have HI := Lib.hid (sInvertG_any U x.length cU x w3 own3.reads rfl (by have := hx.1; omega) hx.2)
          have HC3 := Lib.hid ((hc1.trans hc2).trans hc3)
          have HO3 := Lib.hid own3
          have HS3 := Lib.hid hs3
          have hx1 := hx.1
          have hzz := hc2.size
          have hzy := hc3.size
          clear HL HP HW hc1 hc2 hc3 hs1 hs2 hs3 own3 hx
          go_wp2_with (fail)
          refine HI.out.mono ?_
          rintro e w4 ⟨u4, rfl, own4, bel4⟩
          obtain ⟨U4, n4, c4, rfl, hn4⟩ := own4.formN
          have il := Num.invW_len x
          have hil : (Num.invW x).length ≤ 100 := by omega
          replace hn4 := Lib.hid hn4
          have own3' := HO3.out.below bel4
          have HB := Lib.hid own3'.base_le
          have Z4 := bel4.size
          have hs4 := HS3.out.below bel4
          clear il HI
          go_wp2_with (at_builtin; refine wpList_app_ints _ rfl (.tmp 41) (.tmp 43) rfl w2.heap.size _ x (Num.invW x) rfl own3' U4 _ c4 hn4.out rfl own4.reads (by omega) (by omega) ?_; intro v5 w5 own5 gr5 at5)
          go_ret
          have hc4 : ChgS (fun k => False) w3 w4 := ⟨bel4.os, bel4.tape, bel4.output, bel4.size, fun k hk _ => bel4.block k hk⟩
          have hc5 : ChgS (fun k => (Value.slice U x.length cU).ownBlock = some k) w4 w5 := ChgS.of_grown gr5 fun k e => e
          exact ⟨v5, _, rfl, own5.base_ (by omega), by simp only [List.length_append]; omega, hs4.chg hc5 (fun k e => by have := HB.out k e; omega), (HC3.out.on hc4 (fun k h => h.elim)).on hc5 (fun k e => .inr (by have := HB.out k e; omega))⟩
      · have T2 : (r == 2) = false := by simp; omega
        have T3 : (r == 3) = false := by simp; omega
        clear h0 h1 h2
        go_wp2_with (fail)
        refine HP.out.mono ?_
        rintro e w2 ⟨r2, rfl, ⟨r3, r4⟩, hs2, hc2⟩
        have HL := Lib.hid (letters_any q A len cap k r2 w2 hs2 hk (by omega))
        have HC2 := Lib.hid (hc1.trans hc2)
        go_wp2_with (fail)
        refine HL.out.mono ?_
        intro e w3 hh
        obtain ⟨u, x, rfl, own3, hx, hs4, hc4⟩ := hh.up HC2.out (Q := fun x => x.length ≤ 300) (fun x h => by have := h.1; omega)
        go_wp2_with (fail)
        go_ret
        exact ⟨u, x, rfl, own3, hx, hs4, hc4⟩
/-- Two words that came. -/
def TwoWords (w : World) (e : Ending) (w' : World) : Prop :=
  ∃ k u v a b, e = .returned (.tuple #[.int .i64 k, u, v]) ∧ spI.rd w' u a ∧ spI.rd w' v b ∧ Below w.heap.size w w'
end Go.Proofs.Ytpplojbcjgiabaa
