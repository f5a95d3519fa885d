/- The model's IsSubspace. -/
import Derived.Test.YtggkoihlmijacaaL04A
import Derived.Test.YtggkoihlmijacaaL02X
import Derived.Test.YtggkoihlmijacaaL02M
import Derived.Deep.RegionHeld3
namespace Go.Proofs.Ytggkoihlmijacaa
open Go.RowKit
set_option linter.unusedVariables false
set_option linter.unusedSimpArgs false

theorem sSame2_at (v u : Value) (xs ys : List (List Int)) (w : World) (h : spII.rd w v xs) (k : spII.rd w u ys) (b : Bool) (e : decide (xs = ys) = b) : Calls Try.prog 44 #[v, u] w (RetB b w) := by
  have := sSame2_any v u xs ys w h k
  rw [e] at this; exact this
set_option maxRecDepth 100000 in
set_option maxHeartbeats 1000000 in
theorem sIsSubspace_any (v0 : Value) (x0 : Mat) (w : World) (h0 : spMat.rd w v0 x0) : Calls Try.prog 14 #[v0] w (RetB x0.sub w) := by
  obtain ⟨A0, n0, c0, rfl, r0⟩ := spMat_form h0
  obtain ⟨rfl, -, -, -⟩ := rdII_of r0
  have b0 : Below w.heap.size w (w.alloc (.cells [.int .i64 x0.P, .int .i64 x0.C, .slice A0 x0.R.length c0].toArray 27)) := by go_grown
  have Ba : Blk (w.alloc (.cells [.int .i64 x0.P, .int .i64 x0.C, .slice A0 x0.R.length c0].toArray 27)) w.heap.size [.int .i64 x0.P, .int .i64 x0.C, .slice A0 x0.R.length c0] 27 := Blk.new w [.int .i64 x0.P, .int .i64 x0.C, .slice A0 x0.R.length c0] 27
  generalize hW : w.alloc (.cells [.int .i64 x0.P, .int .i64 x0.C, .slice A0 x0.R.length c0].toArray 27) = W at b0 Ba
  have K0 := Lib.hid (spMat.rd_below h0 b0)
  have R0 := Lib.hid (spII.rd_below r0 b0)
  clear h0 r0
  cases hk0 : x0.ok with
  | false =>
    have HEC : Hid (x0.sub = false) := Lib.hid (Mat.sub_false hk0)
    have HC := Lib.hid (sIsMat_no _ x0 _ (spMat.rd_drew K0.out) hk0)
    subst hW
    obtain ⟨bl1, a0, a1, a2⟩ := Ba.c3
    clear hk0
    rw [HEC.out]
    go_enter Try.func14, Try.ntmps14
    go_wp2_with (fail)
    refine wp_region_any (by kernel_rfl) ?_
    try (change wpAny _ _ _ _ _ _ _ (World.drew _))
    refine wpAny_ready (rs := [0]) (by kernel_rfl) (by simp) ?_
    refine AllReady.cons rfl (fun K hK => ?_) AllReady.nil
    go_simp
    refine hK _ _ ?_; clear hK K
    refine wpAny_ready (rs := [1]) (by kernel_rfl) (by simp) ?_
    refine AllReady.cons rfl (fun K hK => ?_) AllReady.nil
    go_simp
    refine HC.out.mono ?_; rintro e w1 ⟨rfl, hb1⟩
    refine hK _ _ ?_; clear hK K
    refine wpAny_ready (rs := [2]) (by kernel_rfl) (by simp) ?_
    refine AllReady.cons rfl (fun K hK => ?_) AllReady.nil
    go_simp
    refine hK _ _ ?_; clear hK K
    refine wpAny_take (i := 3) (v := undef) rfl (by kernel_rfl) (by kernel_rfl) (by kernel_rfl) (fun _ _ _ h => h) (Or.inr ⟨by rfl, rfl⟩) ?_
    refine wpAny_take (i := 4) (v := undef) rfl (by kernel_rfl) (by kernel_rfl) (by kernel_rfl) (fun _ _ _ h => h) (Or.inr ⟨by rfl, rfl⟩) ?_
    refine wpAny_take (i := 5) (v := undef) rfl (by kernel_rfl) (by kernel_rfl) (by kernel_rfl) (fun _ _ _ h => h) (Or.inr ⟨by rfl, rfl⟩) ?_
    refine wpAny_take (i := 6) (v := undef) rfl (by kernel_rfl) (by kernel_rfl) (by kernel_rfl) (fun _ _ _ h => h) (Or.inr ⟨by rfl, rfl⟩) ?_
    refine wpAny_take (i := 7) (v := undef) rfl (by kernel_rfl) (by kernel_rfl) (by kernel_rfl) (fun _ _ _ h => h) (Or.inr ⟨by rfl, rfl⟩) ?_
    refine wpAny_take (i := 8) (v := undef) rfl (by kernel_rfl) (by kernel_rfl) (by kernel_rfl) (fun _ _ _ h => h) (Or.inr ⟨by rfl, rfl⟩) ?_
    refine wpAny_take (i := 9) (v := undef) rfl (by kernel_rfl) (by kernel_rfl) (by kernel_rfl) (fun _ _ _ h => h) (Or.inr ⟨by rfl, rfl⟩) ?_
    refine wpAny_take (i := 10) (v := undef) rfl (by kernel_rfl) (by kernel_rfl) (by kernel_rfl) (fun _ _ _ h => h) (Or.inr ⟨by rfl, rfl⟩) ?_
    refine wpAny_ready (rs := [11]) (by kernel_rfl) (by simp) ?_
    refine AllReady.cons rfl (fun K hK => ?_) AllReady.nil
    go_simp
    refine hK _ _ ?_; clear hK K
    refine wpAny_ready (rs := [12]) (by kernel_rfl) (by simp) ?_
    refine AllReady.cons rfl (fun K hK => ?_) AllReady.nil
    go_simp
    refine hK _ _ ?_; clear hK K
    refine wpAny_done (by kernel_rfl) ?_ _
    have L1 := bstep b0.drew b0.size hb1
    go_wp2_with (fail)
    go_ret
    exact ⟨rfl, L1⟩
  | true =>
    obtain ⟨hgp, hp1, hp2, hC0, hC1, hR8, hV0⟩ := Mat.ok_out hk0
    obtain ⟨bb, hbb⟩ : ∃ b, decide (Num.reduceR x0.P x0.R = x0.R) = b := ⟨_, rfl⟩
    have HEC : Hid (x0.sub = bb) := Lib.hid (by unfold Mat.sub; rw [hk0, ← hbb]; simp)
    have HC := Lib.hid (sIsMat_yes _ x0 _ (spMat.rd_drew K0.out) hk0)
    have HRD : Hid (∀ W', Below W.heap.size W W' → Calls Try.prog 45 #[.int .i64 x0.P, .slice A0 x0.R.length c0] W' (Made spII (Num.reduceR x0.P x0.R) W')) := Lib.hid fun W' hW' => sReduce_any x0.P _ x0.R x0.C.toNat W' (spII.rd_below R0.out hW') hgp hV0 (by omega) (by omega)
    have HSM : Hid (∀ W' (u : Value), Below W.heap.size W W' → spII.rd W' u (Num.reduceR x0.P x0.R) → Calls Try.prog 44 #[u, .slice A0 x0.R.length c0] W' (RetB bb W')) := Lib.hid fun W' u hW' hu => sSame2_at _ _ _ _ W' hu (spII.rd_below R0.out hW') bb hbb
    subst hW
    obtain ⟨bl1, a0, a1, a2⟩ := Ba.c3
    clear hk0 hbb hV0 K0 R0
    rw [HEC.out]
    go_enter Try.func14, Try.ntmps14
    go_wp2_with (fail)
    go_region_held3 (fun wx => wx.cell? ⟨w.heap.size, 0, none⟩ = some (.int .i64 x0.P) ∧ wx.cell? ⟨w.heap.size, 1, none⟩ = some (.int .i64 x0.C) ∧ wx.cell? ⟨w.heap.size, 2, none⟩ = some (.slice A0 x0.R.length c0)) (first | go_keep | assumption) (first
      | (go_at_call 43; refine (HC.out).mono ?_; rintro e w1 ⟨rfl, hb1⟩; have LC := bstep (Below.refl _ _).drew (Nat.le_refl _) hb1; have SM : w1.cell? ⟨w.heap.size, 0, none⟩ = some (.int .i64 x0.P) ∧ w1.cell? ⟨w.heap.size, 1, none⟩ = some (.int .i64 x0.C) ∧ w1.cell? ⟨w.heap.size, 2, none⟩ = some (.slice A0 x0.R.length c0) := ⟨(Blk.cell (Ba.below LC) 0 (by simp)), (Blk.cell (Ba.below LC) 1 (by simp)), (Blk.cell (Ba.below LC) 2 (by simp))⟩)
      | (go_at_call 45; refine (HRD.out _ LC).mono ?_; rintro e w2 ⟨u2, S2, rfl, ow2, hS2, hb2⟩; have LD := bstep LC LC.size hb2; have SM2 : w2.cell? ⟨w.heap.size, 0, none⟩ = some (.int .i64 x0.P) ∧ w2.cell? ⟨w.heap.size, 1, none⟩ = some (.int .i64 x0.C) ∧ w2.cell? ⟨w.heap.size, 2, none⟩ = some (.slice A0 x0.R.length c0) := ⟨(Blk.cell (Ba.below LD) 0 (by simp)), (Blk.cell (Ba.below LD) 1 (by simp)), (Blk.cell (Ba.below LD) 2 (by simp))⟩)
      | (go_at_call 44; refine (HSM.out _ _ LD (spII.own_rd ow2)).mono ?_; rintro e w3 ⟨rfl, hb3⟩; have LE := bstep LD LD.size hb3; have SM3 : w3.cell? ⟨w.heap.size, 0, none⟩ = some (.int .i64 x0.P) ∧ w3.cell? ⟨w.heap.size, 1, none⟩ = some (.int .i64 x0.C) ∧ w3.cell? ⟨w.heap.size, 2, none⟩ = some (.slice A0 x0.R.length c0) := ⟨(Blk.cell (Ba.below LE) 0 (by simp)), (Blk.cell (Ba.below LE) 1 (by simp)), (Blk.cell (Ba.below LE) 2 (by simp))⟩))
    all_goals
      have L3 := bstep b0 b0.size LE
      go_wp2_with (fail)
      go_ret
      exact ⟨rfl, L3⟩
theorem sIsSub_yes (v : Value) (x : Mat) (w : World) (h : spMat.rd w v x) (hk : x.sub = true) : Calls Try.prog 14 #[v] w (RetB true w) := by
  have := sIsSubspace_any v x w h; rwa [hk] at this
theorem sIsSub_no (v : Value) (x : Mat) (w : World) (h : spMat.rd w v x) (hk : x.sub = false) : Calls Try.prog 14 #[v] w (RetB false w) := by
  have := sIsSubspace_any v x w h; rwa [hk] at this
theorem sIsSubspace_ok (v0 : Value) (x0 : Mat) (w : World) (h0 : spMat.rd w v0 x0) (s0 : spMat.sz x0 ≤ 1048576) : Calls Try.prog 14 #[v0] w (RetB x0.sub w) := sIsSubspace_any v0 x0 w h0
end Go.Proofs.Ytggkoihlmijacaa
