/- Presentations as they are read; the model's l07Exponents, l07Product and IsPresentation. -/
import Derived.Test.YteappjgdcbploaaNumPr
import Derived.Test.YteappjgdcbploaaShPres
import Derived.Test.YteappjgdcbploaaL07B
import Derived.Test.YteappjgdcbploaaL10B
namespace Go.Proofs.Yteappjgdcbploaa
open Go.RowKit
set_option linter.unusedVariables false
set_option linter.unusedSimpArgs false

/-- Lists of rows as they are read. -/
def RdX (w : World) (A : Option Addr) (fs : List (List (List Int))) : Prop := ∀ i, i < fs.length → ∃ g o B c, A = some ⟨g, o, none⟩ ∧ g < w.heap.size ∧ w.cell? ⟨g, o + i, none⟩ = some (.slice B (fs.getD i []).length c) ∧ (fs.getD i []).length ≤ maxLen ∧ RdW w B (fs.getD i [])
theorem RdX.below' {w w' : World} {A : Option Addr} {fs : List (List (List Int))} (h : RdX w A fs) (hb : Below w.heap.size w w') : RdX w' A fs := by
  intro i hi
  obtain ⟨g, o, B, c, rfl, hg, hc, hl, hr⟩ := h i hi
  exact ⟨g, o, B, c, rfl, Nat.lt_of_lt_of_le hg hb.size, by rw [hb.cell hg]; exact hc, hl, hr.below' hb⟩
theorem RdX.of {w : World} {A : Option Addr} {n c : Nat} {fs : List (List (List Int))} (h : spIII.rd w (.slice A n c) fs) : n = fs.length ∧ fs.length ≤ maxLen ∧ RdX w A fs := by
  have h0 := h
  obtain ⟨A', c', e, hm, _⟩ := h0
  simp only [Value.slice.injEq] at e
  refine ⟨e.2.1, hm, fun j hj => ?_⟩
  obtain ⟨g, o, u, rfl, hg, hc, hr⟩ := spL_row h hj
  have hr0 := hr
  obtain ⟨B, cc, e2, _⟩ := hr0
  subst e2
  obtain ⟨_, hl, hb⟩ := RdW.of hr
  exact ⟨g, o, B, cc, rfl, hg, hc, hl, hb⟩
theorem RdX.rd {w : World} {A : Option Addr} {fs : List (List (List Int))} (h : RdX w A fs) (hl : fs.length ≤ maxLen) (c : Nat) : spIII.rd w (.slice A fs.length c) fs := by
  refine ⟨A, c, rfl, hl, fun j hj => ?_⟩
  obtain ⟨g, o, B, cc, rfl, hg, hc, hl', hr⟩ := h j hj
  refine ⟨g, o, _, rfl, hg, hc, B, cc, rfl, hl', fun i hi => ?_⟩
  obtain ⟨g', o', B', c', rfl, hg', hc', hl'', hr'⟩ := hr i hi
  exact ⟨g', o', _, rfl, hg', hc', B', c', rfl, hl'', hr'⟩
theorem RdW.rd {w : World} {A : Option Addr} {fs : List (List Int)} (h : RdW w A fs) (hl : fs.length ≤ maxLen) (c : Nat) : spII.rd w (.slice A fs.length c) fs := by
  refine ⟨A, c, rfl, hl, fun i hi => ?_⟩
  obtain ⟨g', o', B', c', rfl, hg', hc', hl'', hr'⟩ := h i hi
  exact ⟨g', o', _, rfl, hg', hc', B', c', rfl, hl'', hr'⟩
/-- A presentation, opened. -/
theorem pres_open {w : World} {v : Value} {x : Pres} (h : spPres.rd w v x) : ∃ A0 c0 A1 c1 A2 c2, v = .agg #[.slice A0 x.O.length c0, .slice A1 x.W.length c1, .slice A2 x.J.length c2] ∧
    (RdI w A0 x.O ∧ RdW w A1 x.W ∧ RdX w A2 x.J) ∧ x.O.length ≤ maxLen ∧ x.W.length ≤ maxLen ∧ x.J.length ≤ maxLen := by
  obtain ⟨A0, n0, c0, A1, n1, c1, A2, n2, c2, rfl, r0, r1, r2⟩ := spPres_form h
  obtain ⟨B0, d0, e0, m0, q0⟩ := r0
  simp only [Value.slice.injEq] at e0
  obtain ⟨rfl, rfl, rfl⟩ := e0
  obtain ⟨rfl, m1, q1⟩ := RdW.of r1
  obtain ⟨rfl, m2, q2⟩ := RdX.of r2
  exact ⟨A0, c0, A1, c1, A2, c2, rfl, ⟨q0, q1, q2⟩, m0, m1, m2⟩
theorem pres_rd {w : World} {x : Pres} {A0 A1 A2 : Option Addr} (h : RdI w A0 x.O ∧ RdW w A1 x.W ∧ RdX w A2 x.J) (m0 : x.O.length ≤ maxLen) (m1 : x.W.length ≤ maxLen) (m2 : x.J.length ≤ maxLen) (c0 c1 c2 : Nat) :
    spPres.rd w (.agg #[.slice A0 x.O.length c0, .slice A1 x.W.length c1, .slice A2 x.J.length c2]) x :=
  ⟨_, _, _, rfl, ⟨A0, c0, rfl, m0, h.1⟩, h.2.1.rd m1 c1, h.2.2.rd m2 c2⟩
/-- Whether a presentation is valid. -/
def Pres.ok (p : Pres) : Bool := Num.preB p.O p.W p.J

/-- A call that only draws, in a region behind draws. -/
theorem quiet_drew {P : Program} {f : FuncId} {args : Array Value} {w : World} {a n : Nat} {v : Value} (h : ∀ W : World, W = w.drewN (a + n) → Calls P f args W fun e w' => e = .returned v ∧ ∃ m, w' = W.drewN m) :
    Calls P f args (w.drewN (a + n)) fun e w'' => e = .returned v ∧ ∃ m, w'' = w.drewN (a + m) :=
  (h _ rfl).mono fun _ _ ⟨he, m, hm⟩ => ⟨he, n + m, by rw [hm, World.drewN_drewN, Nat.add_assoc]⟩

set_option maxRecDepth 100000 in
set_option maxHeartbeats 1000000 in
theorem sExp_any (A B : Option Addr) (c d : Nat) (O v : List Int) (z : Nat) (zi : Int) (w : World) (hA : RdI w A O) (hB : RdI w B v) (hl : O.length ≤ maxLen) (hv : v.length ≤ maxLen) (ho : ∀ j, j < O.length → 1 ≤ O.getD j 0 ∧ O.getD j 0 ≤ 7) (hz : zi = (z : Int) - 1) :
    Calls Try.prog 104 #[.slice A O.length c, .slice B v.length d, .int .i64 zi] w fun e w' => e = .returned (.bool (Num.fitB O v z)) ∧ ∃ m, w' = w.drewN m := by
  unfold maxLen at hl hv
  by_cases hn : v.length = O.length
  · have HY : Hid ((∀ j, j < v.length → Num.Fit O v z j) → Num.fitB O v z = true) := Lib.hid fun h => Num.fitB_ok hn h
    have HB0 : Hid (∀ j, j < v.length → ¬ Num.Fit O v z j → Num.fitB O v z = false) := Lib.hid fun j hj h => Num.fitB_bad hj h
    have T0 : ((v.length : Int) != (O.length : Int)) = false := by simp [hn]
    have HO := Lib.hid ho
    have l1 : v.length ≤ O.length := by omega
    clear hn ho
    go_enter Try.func104, Try.ntmps104
    go_wp2_with (fail)
    clear T0
    go_loopw [7] (fun s wr => ∃ k m : Nat, k ≤ v.length ∧ s = .int .i64 k ∧ Hid (∀ j, j < k → Num.Fit O v z j) ∧ wr = w.drewN m) (fun s _ => v.length - (intOf s).toNat)
    case atStart => exact ⟨0, 0, by omega, rfl, Lib.hid fun j hj => by omega, rfl⟩
    case round =>
      obtain ⟨k, m, hk, rfl, hp, rfl⟩ := hrel
      by_cases hlt : k < v.length
      · obtain ⟨g, o, rfl, hg, hc⟩ := hB k hlt
        obtain ⟨g', o', rfl, hg', hc'⟩ := hA k (by omega)
        have i0 : (0 : Int) ≤ (k : Int) := by omega
        have i1 : (k : Int) < (v.length : Int) := by omega
        have i2 : (k : Int) < (O.length : Int) := by omega
        have hok := HO.out k (by omega)
        have hw : IntKind.i64.wrap (O.getD k 0 - 1) = O.getD k 0 - 1 := IntWalk.i64_in _ (by omega)
        have HS : Hid (Num.Fit O v z k → ∀ j, j < k + 1 → Num.Fit O v z j) := Lib.hid fun h j hj => by
          rcases Nat.lt_succ_iff_lt_or_eq.mp hj with h1 | rfl
          · exact hp.out j h1
          · exact h
        have HX0 : Hid (¬ Num.Fit O v z k → Num.fitB O v z = false) := Lib.hid fun h => HB0.out k hlt h
        have hq : Num.Fit O v z k ↔ (0 ≤ v.getD k 0 ∧ v.getD k 0 < O.getD k 0 ∧ (k < z → v.getD k 0 = 0)) := Iff.rfl
        clear hp
        generalize v.getD k 0 = x at *
        generalize O.getD k 0 = b at *
        by_cases hr : 0 ≤ x ∧ x < b
        · have HI : Hid (0 ≤ x ∧ x ≤ b - 1) := Lib.hid ⟨hr.1, by omega⟩
          by_cases hzk : k < z
          · have q1 : (k : Int) ≤ zi := by omega
            have q2 : decide ((k : Int) ≤ zi) = true := decide_eq_true q1
            by_cases hx0 : x = 0
            · have HN := Lib.hid (HS.out (hq.mpr ⟨hr.1, hr.2, fun _ => hx0⟩))
              have T1 : (x != 0) = false := by simp [hx0]
              clear hr hx0 hq hzk hz
              go_wp2_with (fail)
              go_quiet ((go_at_call 71; exact quiet_more fun W hW => sIn_yes _ _ _ W HI.out.1 HI.out.2))
              go_wp2_with (fail)
              exact ⟨⟨k + 1, _, by omega, by go_num, HN, by first | rfl | rw [World.drewN_drewN]⟩, by simp [intOf]; omega⟩
            · have HN := Lib.hid (HX0.out (fun h => hx0 ((hq.mp h).2.2 hzk)))
              have T1 : (x != 0) = true := by simpa using hx0
              clear hr hx0 hq hzk hz
              go_wp2_with (fail)
              go_quiet ((go_at_call 71; exact quiet_more fun W hW => sIn_yes _ _ _ W HI.out.1 HI.out.2))
              go_wp2_with (fail)
              go_ret
              exact ⟨ret_b HN.out.symm, _, by first | rfl | rw [World.drewN_drewN]⟩
          · have q1 : ¬ (k : Int) ≤ zi := by omega
            have q2 : decide ((k : Int) ≤ zi) = false := decide_eq_false q1
            have HN := Lib.hid (HS.out (hq.mpr ⟨hr.1, hr.2, fun h => absurd h hzk⟩))
            clear hr hq hzk hz
            go_wp2_with (fail)
            go_quiet ((go_at_call 71; exact quiet_more fun W hW => sIn_yes _ _ _ W HI.out.1 HI.out.2))
            go_wp2_with (fail)
            exact ⟨⟨k + 1, _, by omega, by go_num, HN, by first | rfl | rw [World.drewN_drewN]⟩, by simp [intOf]; omega⟩
        · have HI : Hid (x < 0 ∨ b - 1 < x) := Lib.hid (by omega)
          have HN := Lib.hid (HX0.out (fun h => hr ⟨(hq.mp h).1, (hq.mp h).2.1⟩))
          clear hr hq hz
          go_wp2_with (fail)
          go_quiet ((go_at_call 71; exact quiet_more fun W hW => sIn_no _ _ _ W HI.out))
          go_wp2_with (fail)
          go_ret
          exact ⟨ret_b HN.out.symm, _, by first | rfl | rw [World.drewN_drewN]⟩
      · have hge : ¬ ((k : Int) < (v.length : Int)) := by omega
        obtain rfl : k = v.length := by omega
        have HN := Lib.hid (HY.out hp.out)
        go_wp2_with (fail)
        go_ret
        exact ⟨ret_b HN.out.symm, _, rfl⟩
  · have T0 : ((v.length : Int) != (O.length : Int)) = true := by simp; omega
    have HN : Hid (Num.fitB O v z = false) := Lib.hid (Num.fitB_len hn)
    go_enter Try.func104, Try.ntmps104
    go_wp2_with (fail)
    go_ret
    exact ⟨ret_b HN.out.symm, 0, rfl⟩
set_option maxRecDepth 100000 in
set_option maxHeartbeats 1000000 in
theorem sProd7_any (A : Option Addr) (c : Nat) (O : List Int) (w : World) (hA : RdI w A O) (hl : O.length ≤ maxLen) (ho : ∀ j, j < O.length → 1 ≤ O.getD j 0 ∧ O.getD j 0 ≤ 7) :
    Calls Try.prog 122 #[.slice A O.length c] w fun e w' => e = .returned (.int .i64 (Num.prod7 1 O)) ∧ w = w' := by
  unfold maxLen at hl
  have HO := Lib.hid ho
  clear ho
  go_enter Try.func122, Try.ntmps122
  go_wp2_with (fail)
  go_loop [3, 4] (fun s2 s3 => ∃ (k : Nat) (a : Int), k ≤ O.length ∧ s3 = .int .i64 k ∧ s2 = .int .i64 a ∧ 1 ≤ a ∧ a ≤ 5103 ∧ Hid (Num.prod7 a (O.drop k) = Num.prod7 1 O)) (fun _ s3 => O.length - (intOf s3).toNat)
  case atStart => exact ⟨0, 1, by omega, rfl, rfl, by omega, by omega, Lib.hid rfl⟩
  case round =>
    obtain ⟨k, a, hk, rfl, rfl, a1, a2, hp⟩ := hrel
    by_cases hlt : k < O.length
    · obtain ⟨g, o, rfl, hg, hc⟩ := hA k hlt
      have i0 : (0 : Int) ≤ (k : Int) := by omega
      have i1 : (k : Int) < (O.length : Int) := by omega
      obtain ⟨b1, b2⟩ := HO.out k hlt
      have hst := Num.prod7_step hlt a
      rw [hp.out] at hst
      clear hp
      generalize O.getD k 0 = b at *
      by_cases ha : a ≤ 729
      · rw [if_pos ha] at hst
        have HN := Lib.hid hst.symm
        have hm1 : 1 ≤ a * b := by have := Int.mul_le_mul a1 b1 (by omega) (by omega); omega
        have hm2 : a * b ≤ 729 * 7 := Int.mul_le_mul ha b2 (by omega) (by omega)
        have hw : IntKind.i64.wrap (a * b) = a * b := IntWalk.i64_in _ (by omega)
        clear hst
        go_wp2_with (fail)
        exact ⟨⟨k + 1, a * b, by omega, by go_num, by first | rfl | go_num, hm1, by omega, HN⟩, by simp [intOf]; omega⟩
      · rw [if_neg ha] at hst
        have HN := Lib.hid hst.symm
        clear hst
        go_wp2_with (fail)
        exact ⟨⟨k + 1, a, by omega, by go_num, rfl, a1, a2, HN⟩, by simp [intOf]; omega⟩
    · have hge : ¬ ((k : Int) < (O.length : Int)) := by omega
      obtain rfl : k = O.length := by omega
      have HN : Hid (a = Num.prod7 1 O) := Lib.hid (by have := hp.out; rw [List.drop_length] at this; exact this)
      go_wp2_with (fail)
      go_ret
      exact ⟨ret_i HN.out, rfl⟩
end Go.Proofs.Yteappjgdcbploaa
