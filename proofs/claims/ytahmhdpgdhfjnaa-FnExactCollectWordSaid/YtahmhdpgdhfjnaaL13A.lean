/- Collection of the model: positive words, runs, where a word is reducible. -/
import Derived.Test.YtahmhdpgdhfjnaaNumCp
import Derived.Test.YtahmhdpgdhfjnaaL11M
import Derived.BigQuiet
namespace Go.Proofs.Ytahmhdpgdhfjnaa
open Go.RowKit
set_option linter.unusedVariables false
set_option linter.unusedSimpArgs false

def Num.posB (n : Nat) (m : Int) (x : List Int) : Bool := decide ((x.length : Int) ≤ m) && decide (∀ j, j < x.length → 1 ≤ x.getD j 0 ∧ x.getD j 0 ≤ (n : Int))
theorem Num.posB_out {n : Nat} {m : Int} {x : List Int} (h : Num.posB n m x = true) : (x.length : Int) ≤ m ∧ Num.PosW n x := by
  simp only [Num.posB, Bool.and_eq_true, decide_eq_true_eq] at h
  refine ⟨h.1, fun y hy => ?_⟩
  obtain ⟨j, hj, rfl⟩ := List.getElem_of_mem hy
  have := h.2 j hj
  rwa [List.getD_eq_getElem?_getD, List.getElem?_eq_getElem hj] at this
theorem Num.runF_at (x : Int) : ∀ (l : List Int) (j : Nat), j < Num.runF x l → l.getD j 0 = x
  | [], j, h => by simp [Num.runF] at h
  | y :: l, j, h => by
    rw [Num.runF] at h
    split at h
    · next e =>
      cases j with
      | zero => simpa using e
      | succ j => simpa using Num.runF_at x l j (by omega)
    · omega
theorem Num.runF_step (x : Int) : ∀ (l : List Int) (i : Nat), i ≤ Num.runF x l → i < l.length → l.getD i 0 = x → i + 1 ≤ Num.runF x l
  | [], i, _, h, _ => by simp at h
  | y :: l, 0, _, _, h => by
    have : y = x := by simpa using h
    rw [Num.runF, if_pos this]
    omega
  | y :: l, i + 1, h1, h2, h3 => by
    rw [Num.runF] at h1 ⊢
    split at h1
    · next e =>
      rw [if_pos e]
      have := Num.runF_step x l i (by omega) (by simpa using h2) (by simpa using h3)
      omega
    · omega
theorem Num.drop_getD {α : Type} (x : List α) (t i : Nat) (d : α) : (x.drop t).getD i d = x.getD (t + i) d := by simp [List.getD_eq_getElem?_getD]
theorem Num.runW_len (x : List Int) (t : Nat) (h : t ≤ x.length) : t + Num.runW x t ≤ x.length := by
  have := Num.runF_len (x.getD t 0) (x.drop t)
  rw [List.length_drop] at this
  unfold Num.runW
  omega
theorem Num.runW_step {x : List Int} {t k : Nat} (h1 : t ≤ k) (h2 : k - t ≤ Num.runW x t) (h3 : k < x.length) (h4 : x.getD k 0 = x.getD t 0) : k + 1 - t ≤ Num.runW x t := by
  have := Num.runF_step (x.getD t 0) (x.drop t) (k - t) h2 (by rw [List.length_drop]; omega) (by rw [Num.drop_getD, show t + (k - t) = k by omega]; exact h4)
  unfold Num.runW
  omega
theorem Num.runW_end {x : List Int} {t k : Nat} (h1 : t ≤ k) (h2 : k - t ≤ Num.runW x t) (h3 : k < x.length → x.getD k 0 ≠ x.getD t 0) (ht : t ≤ x.length) : (k : Int) - (t : Int) = (Num.runW x t : Int) := by
  have hl := Num.runW_len x t ht
  by_cases e : k - t = Num.runW x t
  · omega
  · have hk : k < x.length := by omega
    have := Num.runF_at (x.getD t 0) (x.drop t) (k - t) (by unfold Num.runW at h2 e; omega)
    rw [Num.drop_getD, show t + (k - t) = k by omega] at this
    exact absurd this (h3 hk)

theorem sPos_any (n : Nat) (A : Option Addr) (c : Nat) (x : List Int) (m : Int) (w : World) (h : RdI w A x) (hl : x.length ≤ maxLen) :
    Calls Try.prog 87 #[.int .i64 (n : Int), .slice A x.length c, .int .i64 m] w fun e w' => e = .returned (.bool (Num.posB n m x)) ∧ w = w' := by
  unfold maxLen at hl
  by_cases hm : (x.length : Int) ≤ m
  · have HY : Hid ((∀ j, j < x.length → 1 ≤ x.getD j 0 ∧ x.getD j 0 ≤ (n : Int)) → Num.posB n m x = true) := Lib.hid fun h => by unfold Num.posB; rw [decide_eq_true hm, decide_eq_true h]; rfl
    have HN : Hid (∀ j, j < x.length → ¬ (1 ≤ x.getD j 0 ∧ x.getD j 0 ≤ (n : Int)) → Num.posB n m x = false) := Lib.hid fun j hj h => by
      unfold Num.posB
      rw [decide_eq_true hm, decide_eq_false (fun h' => h (h' j hj))]
      rfl
    have hm' : ¬ m < (x.length : Int) := by omega
    go_enter Try.func87, Try.ntmps87
    go_wp2_with (fail)
    go_loopw [7] (fun s wr => ∃ k : Nat, s = .int .i64 k ∧ k ≤ x.length ∧ Hid (∀ j, j < k → 1 ≤ x.getD j 0 ∧ x.getD j 0 ≤ (n : Int)) ∧ wr = w) (fun s _ => x.length - (intOf s).toNat)
    case atStart => exact ⟨0, rfl, by omega, Lib.hid fun j hj => by omega, rfl⟩
    case round =>
      obtain ⟨k, rfl, hk, hp, rfl⟩ := hrel
      by_cases hlt : k < x.length
      · obtain ⟨g, o, rfl, hg, hc⟩ := h k hlt
        have i0 : (0 : Int) ≤ (k : Int) := by omega
        have i1 : (k : Int) < (x.length : Int) := by omega
        have HS : Hid ((1 ≤ x.getD k 0 ∧ x.getD k 0 ≤ (n : Int)) → ∀ j, j < k + 1 → 1 ≤ x.getD j 0 ∧ x.getD j 0 ≤ (n : Int)) := Lib.hid fun h' j hj => by
          rcases Nat.lt_succ_iff_lt_or_eq.mp hj with h1 | rfl
          · exact hp.out j h1
          · exact h'
        have HX := Lib.hid (HN.out k hlt)
        clear hp
        generalize x.getD k 0 = y at *
        by_cases hr : 1 ≤ y ∧ y ≤ (n : Int)
        · have HSS := Lib.hid (HS.out hr)
          have HI := Lib.hid (sIn_yes y 1 (n : Int) wr hr.1 hr.2)
          clear hr
          go_wp2_with (fail)
          refine HI.out.mono ?_; rintro e w' ⟨rfl, rfl⟩
          go_wp2_with (fail)
          exact ⟨⟨k + 1, by go_num, by omega, HSS, by first | rfl | trivial⟩, by simp [intOf]; omega⟩
        · have HF := Lib.hid (HX.out hr)
          have HI := Lib.hid (sIn_no y 1 (n : Int) wr (by omega))
          clear hr
          go_wp2_with (fail)
          refine HI.out.mono ?_; rintro e w' ⟨rfl, rfl⟩
          go_wp2_with (fail)
          go_ret
          exact ⟨ret_b HF.out.symm, rfl⟩
      · have hge : ¬ ((k : Int) < (x.length : Int)) := by omega
        obtain rfl : k = x.length := by omega
        have HF := Lib.hid (HY.out hp.out)
        go_wp2_with (fail)
        go_ret
        exact ⟨ret_b HF.out.symm, rfl⟩
  · have hm' : m < (x.length : Int) := by omega
    have HF : Hid (Num.posB n m x = false) := Lib.hid (by unfold Num.posB; rw [decide_eq_false hm]; rfl)
    go_enter Try.func87, Try.ntmps87
    go_wp2_with (fail)
    go_ret
    exact ⟨ret_b HF.out.symm, rfl⟩
set_option maxHeartbeats 1000000 in
theorem sRun_any (A : Option Addr) (c : Nat) (x : List Int) (t : Nat) (w : World) (h : RdI w A x) (hl : x.length ≤ 100000) (ht : t < x.length) :
    Calls Try.prog 151 #[.slice A x.length c, .int .i64 (t : Int)] w fun e w' => e = .returned (.int .i64 (Num.runW x t : Int)) ∧ ∃ m, w' = w.drewN m := by
  have HS : Hid (∀ k, t ≤ k → k - t ≤ Num.runW x t → k < x.length → x.getD k 0 = x.getD t 0 → k + 1 - t ≤ Num.runW x t) := Lib.hid fun k h1 h2 h3 h4 => Num.runW_step h1 h2 h3 h4
  have HE : Hid (∀ k : Nat, t ≤ k → k - t ≤ Num.runW x t → (k < x.length → x.getD k 0 ≠ x.getD t 0) → (k : Int) - (t : Int) = (Num.runW x t : Int)) := Lib.hid fun k h1 h2 h3 => Num.runW_end h1 h2 h3 (by omega)
  have hlr := Num.runW_len x t (by omega)
  generalize Num.runW x t = r at *
  obtain ⟨g, o, rfl, hg, hc⟩ := h t ht
  have t0 : (0 : Int) ≤ (t : Int) := by omega
  have t1 : (t : Int) < (x.length : Int) := by omega
  go_enter Try.func151, Try.ntmps151
  go_wp2_with (fail)
  go_loopw [5] (fun s wr => ∃ k m : Nat, s = .int .i64 k ∧ t ≤ k ∧ k - t ≤ r ∧ wr = w.drewN m) (fun s _ => x.length - (intOf s).toNat)
  case atStart => exact ⟨t, 0, rfl, by omega, by omega, rfl⟩
  case round =>
    obtain ⟨k, m, rfl, hk, hkr, rfl⟩ := hrel
    have k0 : (0 : Int) ≤ (k : Int) := by omega
    by_cases hlt : k < x.length
    · obtain ⟨g', o', e1, hg', hc'⟩ := h k hlt
      simp only [Option.some.injEq, Addr.mk.injEq, and_true] at e1
      obtain ⟨rfl, rfl⟩ := e1
      have k1 : (k : Int) < (x.length : Int) := by omega
      have k2 : decide ((k : Int) < (x.length : Int)) = true := decide_eq_true k1
      by_cases he : x.getD k 0 = x.getD t 0
      · have HN := Lib.hid (HS.out k hk hkr hlt he)
        have T1 : (x.getD k 0 == x.getD t 0) = true := by simpa using he
        clear he
        generalize x.getD k 0 = y at *
        generalize x.getD t 0 = z at *
        go_wp2_with (fail)
        go_quiet (fail)
        go_wp2_with (fail)
        exact ⟨⟨k + 1, _, by go_num, by omega, HN.out, by first | rfl | rw [World.drewN_drewN]⟩, by simp [intOf]; omega⟩
      · have HF := Lib.hid (HE.out k hk hkr (fun _ => he))
        have T1 : (x.getD k 0 == x.getD t 0) = false := by simpa using he
        have hw : IntKind.i64.wrap ((k : Int) - (t : Int)) = (k : Int) - (t : Int) := IntWalk.i64_in _ (by omega)
        clear he
        generalize x.getD k 0 = y at *
        generalize x.getD t 0 = z at *
        go_wp2_with (fail)
        go_quiet (fail)
        go_wp2_with (fail)
        go_ret
        exact ⟨by first | rfl | exact ret_i HF.out, _, by first | rfl | rw [World.drewN_drewN]⟩
    · have k1 : ¬ (k : Int) < (x.length : Int) := by omega
      have k2 : decide ((k : Int) < (x.length : Int)) = false := decide_eq_false k1
      have HF := Lib.hid (HE.out k hk hkr (fun h => absurd h hlt))
      have hw : IntKind.i64.wrap ((k : Int) - (t : Int)) = (k : Int) - (t : Int) := IntWalk.i64_in _ (by omega)
      go_wp2_with (fail)
      go_quiet (fail)
      go_wp2_with (fail)
      go_ret
      exact ⟨by first | rfl | exact ret_i HF.out, _, by first | rfl | rw [World.drewN_drewN]⟩
theorem Num.redB_dsc {O x : List Int} {t : Nat} (h1 : t + 1 < x.length) (h2 : x.getD (t + 1) 0 < x.getD t 0) : Num.redB O x t = true := by
  unfold Num.redB
  rw [Num.dsc_iff.mpr ⟨h1, h2⟩, Bool.true_or]
theorem Num.redB_run {O x : List Int} {t : Nat} (h : ¬ (t + 1 < x.length ∧ x.getD (t + 1) 0 < x.getD t 0)) : Num.redB O x t = decide (O.getD (x.getD t 0 - 1).toNat 0 ≤ (Num.runW x t : Int)) := by
  unfold Num.redB
  rw [show Num.dsc x t = false from by cases hd : Num.dsc x t with | false => rfl | true => exact absurd (Num.dsc_iff.mp hd) h, Bool.false_or]
set_option maxRecDepth 100000 in
set_option maxHeartbeats 1000000 in
theorem sRed_any (A0 A1 A2 A : Option Addr) (c0 n1 c1 n2 c2 c : Nat) (O x : List Int) (t : Nat) (w : World) (hO : RdI w A0 O) (h : RdI w A x) (hl : x.length ≤ 100000) (ht : t < x.length) (hp : Num.PosW O.length x) (h6 : O.length ≤ 6) :
    Calls Try.prog 127 #[.agg #[.slice A0 O.length c0, .slice A1 n1 c1, .slice A2 n2 c2], .slice A x.length c, .int .i64 (t : Int)] w fun e w' => e = .returned (.bool (Num.redB O x t)) ∧ Below w.heap.size w w' := by
  have b0 : Below w.heap.size w (w.alloc (.cells #[.slice A0 O.length c0, .slice A1 n1 c1, .slice A2 n2 c2] 28)) := by go_grown
  have BX := (Blk.new w [.slice A0 O.length c0, .slice A1 n1 c1, .slice A2 n2 c2] 28).c3
  have hO0 := hO.below' b0
  have h0 := h.below' b0
  obtain ⟨y1, y2⟩ := hp.at_ ht
  have hw : IntKind.i64.wrap ((t : Int) + 1) = (t : Int) + 1 := IntWalk.i64_in _ (by omega)
  have t0 : (0 : Int) ≤ (t : Int) := by omega
  have t1 : (t : Int) < (x.length : Int) := by omega
  have tt : ((t : Int) + 1).toNat = t + 1 := by omega
  have HD : Hid (t + 1 < x.length → x.getD (t + 1) 0 < x.getD t 0 → Num.redB O x t = true) := Lib.hid fun a b => Num.redB_dsc a b
  have HR : Hid (¬ (t + 1 < x.length ∧ x.getD (t + 1) 0 < x.getD t 0) → Num.redB O x t = decide (O.getD (x.getD t 0 - 1).toNat 0 ≤ (Num.runW x t : Int))) := Lib.hid Num.redB_run
  generalize hW0 : (w.alloc (.cells #[.slice A0 O.length c0, .slice A1 n1 c1, .slice A2 n2 c2] 28)) = W0 at *
  obtain ⟨bl, bx0, bx1, bx2⟩ := BX
  have HRun := Lib.hid (fun W' (hW : Below W0.heap.size W0 W') => sRun_any A c x t W' (h0.below' hW) hl ht)
  obtain ⟨g, o, rfl, hg, hc⟩ := h0 t ht
  obtain ⟨g', o', rfl, hg', hc'⟩ := hO0 (x.getD t 0 - 1).toNat (by omega)
  clear hO h hp
  generalize hy : x.getD t 0 = y at *
  have q0 : (0 : Int) ≤ y - 1 := by omega
  have q1 : y - 1 < (O.length : Int) := by omega
  have hwy : IntKind.i64.wrap (y - 1) = y - 1 := IntWalk.i64_in _ (by omega)
  generalize hq : (y - 1).toNat = q at *
  have hq2 : y.toNat - 1 = q := by omega
  by_cases hn : t + 1 < x.length
  · obtain ⟨g2, o2, e2, hg2, hc2⟩ := h0 (t + 1) hn
    simp only [Option.some.injEq, Addr.mk.injEq, and_true] at e2
    obtain ⟨rfl, rfl⟩ := e2
    have k1 : (t : Int) + 1 < (x.length : Int) := by omega
    have k2 : decide ((t : Int) + 1 < (x.length : Int)) = true := decide_eq_true k1
    have k3 : (0 : Int) ≤ (t : Int) + 1 := by omega
    replace HD := Lib.hid (HD.out hn)
    have HR2 : Hid (¬ x.getD (t + 1) 0 < y → Num.redB O x t = decide (O.getD q 0 ≤ (Num.runW x t : Int))) := Lib.hid fun h => HR.out (fun h' => h h'.2)
    generalize x.getD (t + 1) 0 = z at *
    generalize O.getD q 0 = ob at *
    generalize Num.runW x t = r at *
    generalize Num.redB O x t = b at *
    clear h0 hO0 HR hn
    by_cases hd : z < y
    · have HF := Lib.hid (HD.out hd)
      have d2 : decide (z < y) = true := decide_eq_true hd
      go_enter Try.func127, Try.ntmps127
      go_wp2_with (fail)
      clear hW0
      go_quiet (fail)
      go_wp2_with (fail)
      go_ret
      exact ⟨ret_b HF.out.symm, below_drewN b0 _⟩
    · have HF := Lib.hid (HR2.out hd)
      have d2 : decide (z < y) = false := decide_eq_false hd
      go_enter Try.func127, Try.ntmps127
      go_wp2_with (fail)
      clear hW0
      go_quiet (fail)
      go_wp2_with (fail)
      go_quiet ((go_at_call 151; exact quiet_drew fun W hW => HRun.out W (by rw [hW]; exact below_drewN (Below.refl _ _) _)))
      go_wp2_with (fail)
      go_ret
      exact ⟨ret_b HF.out.symm, by first | exact below_drewN b0 _ | exact below_drewN (below_drewN b0 _) _⟩
  · have k1 : ¬ (t : Int) + 1 < (x.length : Int) := by omega
    have k2 : decide ((t : Int) + 1 < (x.length : Int)) = false := decide_eq_false k1
    have HF := Lib.hid (HR.out (fun h' => hn h'.1))
    generalize O.getD q 0 = ob at *
    generalize Num.runW x t = r at *
    generalize Num.redB O x t = b at *
    clear h0 hO0 HR HD hn
    go_enter Try.func127, Try.ntmps127
    go_wp2_with (fail)
    clear hW0
    go_quiet (fail)
    go_wp2_with (fail)
    go_quiet ((go_at_call 151; exact quiet_drew fun W hW => HRun.out W (by rw [hW]; exact below_drewN (Below.refl _ _) _)))
    go_wp2_with (fail)
    go_ret
    exact ⟨ret_b HF.out.symm, by first | exact below_drewN b0 _ | exact below_drewN (below_drewN b0 _) _⟩
set_option maxRecDepth 100000 in
set_option maxHeartbeats 1000000 in
/-- The least reducible index, -1 if there is none. -/
theorem sAt_any (A0 A1 A2 A : Option Addr) (c0 n1 c1 n2 c2 c : Nat) (O x : List Int) (w : World) (hO : RdI w A0 O) (h : RdI w A x) (hl : x.length ≤ 100000) (hp : Num.PosW O.length x) (h6 : O.length ≤ 6) :
    Calls Try.prog 88 #[.agg #[.slice A0 O.length c0, .slice A1 n1 c1, .slice A2 n2 c2], .slice A x.length c] w fun e w' => e = .returned (.int .i64 (if Num.atW O x < x.length then (Num.atW O x : Int) else -1)) ∧ Below w.heap.size w w' := by
  have b0 : Below w.heap.size w (w.alloc (.cells #[.slice A0 O.length c0, .slice A1 n1 c1, .slice A2 n2 c2] 28)) := by go_grown
  have BX := (Blk.new w [.slice A0 O.length c0, .slice A1 n1 c1, .slice A2 n2 c2] 28).c3
  generalize hW0 : (w.alloc (.cells #[.slice A0 O.length c0, .slice A1 n1 c1, .slice A2 n2 c2] 28)) = W0 at *
  obtain ⟨bl, bx0, bx1, bx2⟩ := BX
  have HC := Lib.hid (fun W' (hW : Below W0.heap.size W0 W') t (ht : t < x.length) => sRed_any A0 A1 A2 A c0 n1 c1 n2 c2 c O x t W' ((hO.below' b0).below' hW) ((h.below' b0).below' hW) hl ht hp h6)
  have HT : Hid (∀ t, t < x.length → (∀ j, j < t → Num.redB O x j = false) → Num.redB O x t = true → (if Num.atW O x < x.length then (Num.atW O x : Int) else -1) = (t : Int)) := Lib.hid fun t ht h1 h2 => by
    have e : Num.atW O x = t := Num.fstT_eq ht h1 h2
    rw [e, if_pos ht]
  have HN : Hid ((∀ j, j < x.length → Num.redB O x j = false) → (if Num.atW O x < x.length then (Num.atW O x : Int) else -1) = -1) := Lib.hid fun h1 => by
    have e : Num.atW O x = x.length := Num.fstT_no h1
    rw [e, if_neg (by omega)]
  generalize (if Num.atW O x < x.length then (Num.atW O x : Int) else -1) = res at *
  clear hO h hp
  go_enter Try.func88, Try.ntmps88
  go_wp2_with (fail)
  clear hW0
  go_loopw [5] (fun s wr => ∃ k : Nat, s = .int .i64 k ∧ k ≤ x.length ∧ Hid (∀ j, j < k → Num.redB O x j = false) ∧ Below W0.heap.size W0 wr) (fun s _ => x.length - (intOf s).toNat)
  case atStart => exact ⟨0, rfl, by omega, Lib.hid fun j hj => by omega, Below.refl _ _⟩
  case round =>
    obtain ⟨k, rfl, hk, hf, bel⟩ := hrel
    by_cases hlt : k < x.length
    · have i1 : (k : Int) < (x.length : Int) := by omega
      have x0 : wr.cell? ⟨w.heap.size, 0, none⟩ = _ := (bel.cell bl).trans bx0
      have x1 : wr.cell? ⟨w.heap.size, 1, none⟩ = _ := (bel.cell bl).trans bx1
      have x2 : wr.cell? ⟨w.heap.size, 2, none⟩ = _ := (bel.cell bl).trans bx2
      have HX := Lib.hid (HC.out wr bel k hlt)
      cases hr : Num.redB O x k with
      | true =>
        rw [hr] at HX
        have HF := Lib.hid (HT.out k hlt hf.out hr)
        clear hr hf
        go_wp2_with (fail)
        refine HX.out.mono ?_; rintro e w2 ⟨rfl, hb2⟩
        have L2 := bstep bel bel.size hb2
        go_wp2_with (fail)
        go_ret
        exact ⟨by first | rfl | exact ret_i HF.out | exact ret_i HF.out.symm, bstep b0 b0.size L2⟩
      | false =>
        rw [hr] at HX
        have HF : Hid (∀ j, j < k + 1 → Num.redB O x j = false) := Lib.hid fun j hj => by
          rcases Nat.lt_succ_iff_lt_or_eq.mp hj with h1 | rfl
          · exact hf.out j h1
          · exact hr
        clear hr hf
        go_wp2_with (fail)
        refine HX.out.mono ?_; rintro e w2 ⟨rfl, hb2⟩
        have L2 := bstep bel bel.size hb2
        go_wp2_with (fail)
        exact ⟨⟨k + 1, by go_num, by omega, HF, L2⟩, by simp [intOf]; omega⟩
    · have hge : ¬ ((k : Int) < (x.length : Int)) := by omega
      obtain rfl : k = x.length := by omega
      have HF := Lib.hid (HN.out hf.out)
      go_wp2_with (fail)
      go_ret
      exact ⟨by first | rfl | exact ret_i HF.out | exact ret_i HF.out.symm, bstep b0 b0.size bel⟩
end Go.Proofs.Ytahmhdpgdhfjnaa
