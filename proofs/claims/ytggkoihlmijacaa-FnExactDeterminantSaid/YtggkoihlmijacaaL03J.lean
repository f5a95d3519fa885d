/- The code of a square matrix; the program's InverseMatrix. -/
import Derived.Test.YtggkoihlmijacaaL03G
import Derived.Test.YtggkoihlmijacaaL02L
namespace Go.Proofs.Ytggkoihlmijacaa
open Go.RowKit
set_option linter.unusedVariables false
set_option linter.unusedSimpArgs false

theorem behind_eqk (p C' : Int) (C : Nat) (A : Option Addr) (c : Nat) (rows : List (List Int)) (w : World) (h : RowsAt p w A rows) (hl : rows.length ≤ 1000) (hC : ∀ j, j < rows.length → C < (rows.getD j []).length ∧ (rows.getD j []).length ≤ 1000) (e : C' = (C : Int)) :
    Calls Try.prog 110 #[.int .i64 C', .slice A rows.length c] w fun e w' => ∃ v, e = .returned v ∧ (spRR p).rd w' v (rows.map (List.drop C)) ∧ Below w.heap.size w w' := by
  subst e
  exact behind_any p C A c rows w h hl hC
theorem place_eqk (p k' : Int) (v : Value) (e : List (List Int)) (k : Nat) (w : World) (h : (spRR p).rd w v e) (hl : e.length ≤ 1000) (hr : ∀ i, i < e.length → (e.getD i []).length ≤ 1000) (hk : k ≤ 1000) (e1 : k' = (k : Int)) :
    Calls Try.prog 92 #[v, .int .i64 k'] w fun e' w' => e' = .returned (.int .i64 (Num.place e k : Nat)) ∧ w = w' := by
  subst e1
  exact place_any p v e k w h hl hr hk
theorem Mat.sq_zero {a : Mat} (h : a.sq = 0) : a.ok = true ∧ (a.R.length : Int) = a.C := by
  unfold Mat.sq at h
  cases hk : a.ok with
  | false => rw [hk] at h; simp at h
  | true =>
    rw [hk] at h
    by_cases e : (a.R.length : Int) = a.C
    · exact ⟨rfl, e⟩
    · simp [e] at h
theorem Mat.sq_two {a : Mat} (hk : a.ok = true) (h : ¬ (a.R.length : Int) = a.C) : a.sq = 2 := by
  unfold Mat.sq; simp [hk, h]
theorem Mat.sq_one {a : Mat} (hk : a.ok = false) : a.sq = 1 := by
  unfold Mat.sq; simp [hk]
theorem Mat.sq_ok {a : Mat} (hk : a.ok = true) (h : (a.R.length : Int) = a.C) : a.sq = 0 := by
  unfold Mat.sq; simp [hk, h]
theorem invR_len {p : Int} {C : Nat} {rows : List (List Int)} (hp : Num.gp p = true) (h : ∀ i, i < rows.length → Num.Vec p C (rows.getD i [])) : ∀ i, i < (Num.invR p rows C).length → ((Num.invR p rows C).getD i []).length = rows.length := fun i hi => by
  have E := Num.wide_ech hp h
  unfold Num.invR at hi ⊢
  have hi' : i < (Num.wideE p rows).length := by simpa using hi
  rw [Num.map_getD hi', List.length_drop, (E.vec _ hi').len]
  omega
set_option maxRecDepth 100000 in
set_option maxHeartbeats 1000000 in
theorem squareCode_ok (v0 : Value) (x0 : Mat) (w : World) (h0 : spMat.rd w v0 x0) : Calls Try.prog 90 #[v0] w fun e w' => e = .returned (.int .i64 x0.sq) ∧ Below w.heap.size w w' := by
  obtain ⟨A0, n0, c0, rfl, r0⟩ := spMat_form h0
  obtain ⟨rfl, -, -, -⟩ := rdII_of r0
  have b0 : Below w.heap.size w (w.alloc (.cells [.int .i64 x0.P, .int .i64 x0.C, .slice A0 x0.R.length c0].toArray 27)) := by go_grown
  have Ba : Blk (w.alloc (.cells [.int .i64 x0.P, .int .i64 x0.C, .slice A0 x0.R.length c0].toArray 27)) w.heap.size [.int .i64 x0.P, .int .i64 x0.C, .slice A0 x0.R.length c0] 27 := Blk.new w [.int .i64 x0.P, .int .i64 x0.C, .slice A0 x0.R.length c0] 27
  have K0 := Lib.hid (spMat.rd_below h0 b0)
  clear h0 r0
  cases hk0 : x0.ok with
  | false =>
    have HEC := Lib.hid (Mat.sq_one hk0)
    have HC := Lib.hid (isMat_no _ x0 _ K0.out hk0)
    go_enter Try.func90, Try.ntmps90
    go_wp2_with (fail)
    refine HC.out.mono ?_; rintro e w1 ⟨rfl, hb1⟩
    have L1 := bstep b0 b0.size hb1
    clear hb1 Ba
    go_wp2_with (fail)
    go_ret
    exact ⟨by rw [HEC.out]; rfl, L1⟩
  | true =>
    have HC := Lib.hid (isMat_yes _ x0 _ K0.out hk0)
    have HK0 := Lib.hid hk0
    clear hk0
    by_cases hc : (x0.R.length : Int) = x0.C
    · have HEC := Lib.hid (Mat.sq_ok HK0.out hc)
      have HCC := Lib.hid hc
      go_enter Try.func90, Try.ntmps90
      go_wp2_with (fail)
      refine HC.out.mono ?_; rintro e w1 ⟨rfl, hb1⟩
      have L1 := bstep b0 b0.size hb1
      obtain ⟨bl1, a0, a1, a2⟩ := (Ba.below hb1).c3
      clear hb1 Ba
      go_wp2_with (fail)
      go_ret
      exact ⟨by rw [HEC.out]; rfl, L1⟩
    · have HEC := Lib.hid (Mat.sq_two HK0.out hc)
      go_enter Try.func90, Try.ntmps90
      go_wp2_with (fail)
      refine HC.out.mono ?_; rintro e w1 ⟨rfl, hb1⟩
      have L1 := bstep b0 b0.size hb1
      obtain ⟨bl1, a0, a1, a2⟩ := (Ba.below hb1).c3
      clear hb1 Ba
      go_wp2_with (fail)
      go_ret
      exact ⟨by rw [HEC.out]; rfl, L1⟩
end Go.Proofs.Ytggkoihlmijacaa
