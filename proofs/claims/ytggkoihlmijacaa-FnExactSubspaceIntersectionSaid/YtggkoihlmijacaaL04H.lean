/- The program's SubspaceIntersection. -/
import Derived.Test.YtggkoihlmijacaaL04I
import Derived.Test.YtggkoihlmijacaaL04F
import Derived.Test.YtggkoihlmijacaaL04G
namespace Go.Proofs.Ytggkoihlmijacaa
open Go.RowKit
set_option linter.unusedVariables false
set_option linter.unusedSimpArgs false

set_option maxRecDepth 100000 in
set_option maxHeartbeats 2000000 in
theorem iSubspaceIntersection_ok (v0 : Value) (x0 : Mat) (v1 : Value) (x1 : Mat) (w : World) (h0 : spMat.rd w v0 x0) (h1 : spMat.rd w v1 x1) (s0 : spMat.sz x0 ≤ 1048576) (s1 : spMat.sz x1 ≤ 1048576) : Calls Try.prog 27 #[v0, v1] w (MadeC spMat (rSubspaceIntersection x0 x1) (cSubspaceIntersection x0 x1) w) := by
  obtain ⟨A0, n0, c0, rfl, r0⟩ := spMat_form h0
  obtain ⟨rfl, -, -, -⟩ := rdII_of r0
  obtain ⟨A1, n1, c1, rfl, r1⟩ := spMat_form h1
  obtain ⟨rfl, -, -, -⟩ := rdII_of r1
  have L : Below w.heap.size w (((w.alloc (.cells [.int .i64 x0.P, .int .i64 x0.C, .slice A0 x0.R.length c0].toArray 27)).alloc (.cells [.int .i64 x1.P, .int .i64 x1.C, .slice A1 x1.R.length c1].toArray 27)).alloc (.cells [.int .i64 0, .int .i64 0, .slice none 0 0].toArray 27)) := by go_grown
  have Ba0 : Blk (((w.alloc (.cells [.int .i64 x0.P, .int .i64 x0.C, .slice A0 x0.R.length c0].toArray 27)).alloc (.cells [.int .i64 x1.P, .int .i64 x1.C, .slice A1 x1.R.length c1].toArray 27)).alloc (.cells [.int .i64 0, .int .i64 0, .slice none 0 0].toArray 27)) w.heap.size [.int .i64 x0.P, .int .i64 x0.C, .slice A0 x0.R.length c0] 27 := by have := ((Blk.new w [.int .i64 x0.P, .int .i64 x0.C, .slice A0 x0.R.length c0] 27).alloc (.cells [.int .i64 x1.P, .int .i64 x1.C, .slice A1 x1.R.length c1].toArray 27)).alloc (.cells [.int .i64 0, .int .i64 0, .slice none 0 0].toArray 27); simpa only [World.size_alloc] using this
  have Ba1 : Blk (((w.alloc (.cells [.int .i64 x0.P, .int .i64 x0.C, .slice A0 x0.R.length c0].toArray 27)).alloc (.cells [.int .i64 x1.P, .int .i64 x1.C, .slice A1 x1.R.length c1].toArray 27)).alloc (.cells [.int .i64 0, .int .i64 0, .slice none 0 0].toArray 27)) (w.heap.size + 1) [.int .i64 x1.P, .int .i64 x1.C, .slice A1 x1.R.length c1] 27 := by have := (Blk.new (w.alloc (.cells [.int .i64 x0.P, .int .i64 x0.C, .slice A0 x0.R.length c0].toArray 27)) [.int .i64 x1.P, .int .i64 x1.C, .slice A1 x1.R.length c1] 27).alloc (.cells [.int .i64 0, .int .i64 0, .slice none 0 0].toArray 27); simpa only [World.size_alloc] using this
  have Br : Blk (((w.alloc (.cells [.int .i64 x0.P, .int .i64 x0.C, .slice A0 x0.R.length c0].toArray 27)).alloc (.cells [.int .i64 x1.P, .int .i64 x1.C, .slice A1 x1.R.length c1].toArray 27)).alloc (.cells [.int .i64 0, .int .i64 0, .slice none 0 0].toArray 27)) (w.heap.size + 1 + 1) [.int .i64 0, .int .i64 0, .slice none 0 0] 27 := by have := Blk.new ((w.alloc (.cells [.int .i64 x0.P, .int .i64 x0.C, .slice A0 x0.R.length c0].toArray 27)).alloc (.cells [.int .i64 x1.P, .int .i64 x1.C, .slice A1 x1.R.length c1].toArray 27)) [.int .i64 0, .int .i64 0, .slice none 0 0] 27; simpa only [World.size_alloc] using this
  have K0 := Lib.hid (spMat.rd_below h0 L)
  have R0 := Lib.hid (spII.rd_below r0 L)
  clear h0 r0
  have K1 := Lib.hid (spMat.rd_below h1 L)
  have R1 := Lib.hid (spII.rd_below r1 L)
  clear h1 r1
  have HC0 := subspacesCode_ok _ x0 _ x1 _ K0.out K1.out
  by_cases hc : x0.two x1 = 0
  · rw [hc] at HC0
    have HC := Lib.hid HC0
    clear HC0
    obtain ⟨e1, e2, e3⟩ := meet_steps hc
    obtain ⟨t1, t2, t3, t4⟩ := two_out hc
    have hp := pre_sub e1
    have hi := image_sub e2
    have er : rPreimageSubspace x1 x0 = ⟨x0.P, x0.R.length, Num.preR x0.P x1.R x0.R x0.C.toNat⟩ := by unfold rPreimageSubspace; rw [if_pos e1, t3, t4]
    have ei : rSubspaceIntersection x0 x1 = ⟨x0.P, x0.C, Num.reduceR x0.P (Num.prodR x0.P (Num.preR x0.P x1.R x0.R x0.C.toNat) x0.R x0.C.toNat)⟩ := by unfold rSubspaceIntersection; rw [if_pos hc]
    rw [e3] at hi
    rw [er] at hp e2 e3
    rw [ei] at hi e3
    have HEC : Hid (cSubspaceIntersection x0 x1 = 0) := Lib.hid hc
    have HER := Lib.hid ei
    have HCB : Hid (spMat.cnt ⟨x0.P, x0.C, Num.reduceR x0.P (Num.prodR x0.P (Num.preR x0.P x1.R x0.R x0.C.toNat) x0.R x0.C.toNat)⟩ ≤ 1000000000) := Lib.hid (Mat.ok_cnt (Mat.sub_ok hi))
    have H1 : Hid (∀ W u v, spMat.rd W u x1 → spMat.rd W v x0 → Calls Try.prog 35 #[u, v] W (MadeC spMat ⟨x0.P, x0.R.length, Num.preR x0.P x1.R x0.R x0.C.toNat⟩ 0 W)) := Lib.hid fun W u v hu hv => by
      have := iPreimageSubspace_ok u x1 v x0 W hu hv (Mat.ok_sz (Mat.sub_ok t2)) (Mat.ok_sz (Mat.sub_ok t1))
      rwa [e1, er] at this
    have H2 : Hid (∀ W u v, spMat.rd W u ⟨x0.P, x0.R.length, Num.preR x0.P x1.R x0.R x0.C.toNat⟩ → spMat.rd W v x0 → Calls Try.prog 33 #[u, v] W (MadeC spMat ⟨x0.P, x0.C, Num.reduceR x0.P (Num.prodR x0.P (Num.preR x0.P x1.R x0.R x0.C.toNat) x0.R x0.C.toNat)⟩ 0 W)) := Lib.hid fun W u v hu hv => by
      have := iImageSubspace_ok u _ v x0 W hu hv (Mat.ok_sz (Mat.sub_ok hp)) (Mat.ok_sz (Mat.sub_ok t1))
      rwa [e2, e3] at this
    clear e1 e2 e3 t1 t2 t3 t4 hp hi er ei hc
    generalize Num.reduceR x0.P (Num.prodR x0.P (Num.preR x0.P x1.R x0.R x0.C.toNat) x0.R x0.C.toNat) = RE at *
    generalize Num.preR x0.P x1.R x0.R x0.C.toNat = RP at *
    go_enter Try.func27, Try.ntmps27
    go_wp2_with (fail)
    refine (HC.out).mono ?_; rintro e w1 ⟨rfl, hb⟩
    replace L := bstep L L.size hb
    replace Ba0 := Ba0.below hb
    replace Ba1 := Ba1.below hb
    replace Br := Br.below hb
    replace K0 := Lib.hid (spMat.rd_below K0.out hb)
    replace R0 := Lib.hid (spII.rd_below R0.out hb)
    replace K1 := Lib.hid (spMat.rd_below K1.out hb)
    replace R1 := Lib.hid (spII.rd_below R1.out hb)
    clear hb
    obtain ⟨bla0, qa00, qa01, qa02⟩ := Ba0.c3
    obtain ⟨bla1, qa10, qa11, qa12⟩ := Ba1.c3
    obtain ⟨blr, qr0, qr1, qr2⟩ := Br.c3
    obtain ⟨f0, f1, f2⟩ := Br.f3
    go_wp2_with (fail)
    refine (H1.out _ _ _ K1.out K0.out).mono ?_; rintro e w2 ⟨up, Sp, rfl, ⟨vp, Tp, rfl, op, subp, -⟩, hSp, -, hb⟩
    clear bla0 qa00 qa01 qa02
    clear bla1 qa10 qa11 qa12
    clear blr qr0 qr1 qr2
    clear f0 f1 f2
    obtain ⟨Ap, cp, rfl, -, -⟩ := spII.own_rd op
    have HTp : Hid (∀ k, Tp k → w.heap.size ≤ k) := Lib.hid fun k h => by have := hSp k (subp k h); have := L.size; omega
    have Npa0 : Hid (¬ Tp w.heap.size) := Lib.hid fun h => by have := hSp _ (subp _ h); have := Ba0.lt; omega
    have Npa1 : Hid (¬ Tp (w.heap.size + 1)) := Lib.hid fun h => by have := hSp _ (subp _ h); have := Ba1.lt; omega
    have Npr : Hid (¬ Tp (w.heap.size + 1 + 1)) := Lib.hid fun h => by have := hSp _ (subp _ h); have := Br.lt; omega
    replace L := bstep L L.size hb
    replace Ba0 := Ba0.below hb
    replace Ba1 := Ba1.below hb
    replace Br := Br.below hb
    replace K0 := Lib.hid (spMat.rd_below K0.out hb)
    replace R0 := Lib.hid (spII.rd_below R0.out hb)
    replace K1 := Lib.hid (spMat.rd_below K1.out hb)
    replace R1 := Lib.hid (spII.rd_below R1.out hb)
    clear hb
    have Kp : Hid (spMat.rd w2 (.agg #[.int .i64 x0.P, .int .i64 (x0.R.length : Int), .slice Ap (RP).length cp]) ⟨x0.P, (x0.R.length : Int), RP⟩) := Lib.hid ⟨_, rfl, spII.own_rd op⟩
    have Op := Lib.hid op
    clear op subp hSp
    obtain ⟨bla0, qa00, qa01, qa02⟩ := Ba0.c3
    obtain ⟨bla1, qa10, qa11, qa12⟩ := Ba1.c3
    obtain ⟨blr, qr0, qr1, qr2⟩ := Br.c3
    obtain ⟨f0, f1, f2⟩ := Br.f3
    have Lb := L
    have hbx : Below w2.heap.size w2 (w2.alloc (.cells [.int .i64 x0.P, .int .i64 (x0.R.length : Int), .slice Ap RP.length cp].toArray 27)) := (Below.refl _ _).alloc (Nat.le_refl _) _
    have Bp := Blk.new w2 [.int .i64 x0.P, .int .i64 (x0.R.length : Int), .slice Ap RP.length cp] 27
    replace L := bstep L L.size hbx
    replace Ba0 := Ba0.below hbx
    replace Ba1 := Ba1.below hbx
    replace Br := Br.below hbx
    replace K0 := Lib.hid (spMat.rd_below K0.out hbx)
    replace R0 := Lib.hid (spII.rd_below R0.out hbx)
    replace K1 := Lib.hid (spMat.rd_below K1.out hbx)
    replace R1 := Lib.hid (spII.rd_below R1.out hbx)
    replace Kp := Lib.hid (spMat.rd_below Kp.out hbx)
    replace Op := Lib.hid (spII.own_below Op.out hbx)
    clear hbx
    go_wp2_with (fail)
    refine (H2.out _ _ _ Kp.out K0.out).mono ?_; rintro e w3 ⟨uk, Sk, rfl, ⟨vk, Tk, rfl, ok, subk, -⟩, hSk, -, hb⟩
    clear bla0 qa00 qa01 qa02
    clear bla1 qa10 qa11 qa12
    clear blr qr0 qr1 qr2
    clear f0 f1 f2
    clear Lb
    obtain ⟨Ak, ck, rfl, -, -⟩ := spII.own_rd ok
    have HTk : Hid (∀ k, Tk k → w.heap.size ≤ k) := Lib.hid fun k h => by have := hSk k (subk k h); have := L.size; omega
    have Nka0 : Hid (¬ Tk w.heap.size) := Lib.hid fun h => by have := hSk _ (subk _ h); have := Ba0.lt; omega
    have Nka1 : Hid (¬ Tk (w.heap.size + 1)) := Lib.hid fun h => by have := hSk _ (subk _ h); have := Ba1.lt; omega
    have Nkr : Hid (¬ Tk (w.heap.size + 1 + 1)) := Lib.hid fun h => by have := hSk _ (subk _ h); have := Br.lt; omega
    have Nkp : Hid (¬ Tk w2.heap.size) := Lib.hid fun h => by have := hSk _ (subk _ h); have := Bp.lt; omega
    replace L := bstep L L.size hb
    replace Ba0 := Ba0.below hb
    replace Ba1 := Ba1.below hb
    replace Br := Br.below hb
    replace Bp := Bp.below hb
    replace K0 := Lib.hid (spMat.rd_below K0.out hb)
    replace R0 := Lib.hid (spII.rd_below R0.out hb)
    replace K1 := Lib.hid (spMat.rd_below K1.out hb)
    replace R1 := Lib.hid (spII.rd_below R1.out hb)
    replace Kp := Lib.hid (spMat.rd_below Kp.out hb)
    replace Op := Lib.hid (spII.own_below Op.out hb)
    clear hb
    have Kk : Hid (spMat.rd w3 (.agg #[.int .i64 x0.P, .int .i64 x0.C, .slice Ak (RE).length ck]) ⟨x0.P, x0.C, RE⟩) := Lib.hid ⟨_, rfl, spII.own_rd ok⟩
    have Ok := Lib.hid ok
    clear ok subk hSk
    obtain ⟨bla0, qa00, qa01, qa02⟩ := Ba0.c3
    obtain ⟨bla1, qa10, qa11, qa12⟩ := Ba1.c3
    obtain ⟨blr, qr0, qr1, qr2⟩ := Br.c3
    obtain ⟨blp, qp0, qp1, qp2⟩ := Bp.c3
    obtain ⟨f0, f1, f2⟩ := Br.f3
    go_wp2_with (fail)
    refine bodyPost_ret (v := .tuple #[.agg #[.int .i64 x0.P, .int .i64 x0.C, .slice Ak RE.length ck], .int .i64 0]) (by simp [results, Try.results27, go_sem, bla0, qa00, qa01, qa02, bla1, qa10, qa11, qa12, blr, qr0, qr1, qr2, blp, qp0, qp1, qp2]) rfl ?_
    rw [HER.out, HEC.out]
    refine MadeC.mat (S := Tk) rfl ?_ HTk.out HCB.out ?_
    · exact spII.own_set (spII.own_set (spII.own_set (Ok.out) (p := ⟨(w.heap.size + 1 + 1), 0, none⟩) Nkr.out _) (p := ⟨(w.heap.size + 1 + 1), 1, none⟩) Nkr.out _) (p := ⟨(w.heap.size + 1 + 1), 2, none⟩) Nkr.out _
    · exact (((L).setCell (p := ⟨(w.heap.size + 1 + 1), 0, none⟩) (by simp; try omega) _).setCell (p := ⟨(w.heap.size + 1 + 1), 1, none⟩) (by simp; try omega) _).setCell (p := ⟨(w.heap.size + 1 + 1), 2, none⟩) (by simp; try omega) _
  · have HEC : Hid (cSubspaceIntersection x0 x1 = x0.two x1) := Lib.hid rfl
    have HER : Hid (rSubspaceIntersection x0 x1 = noMat) := Lib.hid (by unfold rSubspaceIntersection; rw [if_neg hc])
    have HC := Lib.hid HC0
    have hcb : (x0.two x1 == 0) = false := by simpa using hc
    have hcn : (x0.two x1 != 0) = true := by simpa using hc
    clear HC0 hc
    generalize x0.two x1 = q at *
    go_enter Try.func27, Try.ntmps27
    go_wp2_with (fail)
    refine (HC.out).mono ?_; rintro e w1 ⟨rfl, hb⟩
    replace L := bstep L L.size hb
    replace Ba0 := Ba0.below hb
    replace Ba1 := Ba1.below hb
    replace Br := Br.below hb
    replace K0 := Lib.hid (spMat.rd_below K0.out hb)
    replace R0 := Lib.hid (spII.rd_below R0.out hb)
    replace K1 := Lib.hid (spMat.rd_below K1.out hb)
    replace R1 := Lib.hid (spII.rd_below R1.out hb)
    clear hb
    obtain ⟨bla0, qa00, qa01, qa02⟩ := Ba0.c3
    obtain ⟨bla1, qa10, qa11, qa12⟩ := Ba1.c3
    obtain ⟨blr, qr0, qr1, qr2⟩ := Br.c3
    obtain ⟨f0, f1, f2⟩ := Br.f3
    go_wp2_with (fail)
    refine bodyPost_ret (v := .tuple #[.agg #[.int .i64 0, .int .i64 0, .slice none 0 0], .int .i64 q]) (by simp [results, Try.results27, go_sem, bla0, qa00, qa01, qa02, bla1, qa10, qa11, qa12, blr, qr0, qr1, qr2]) rfl ?_
    rw [HER.out, HEC.out]
    exact MadeC.none rfl ((((L).setCell (p := ⟨(w.heap.size + 1 + 1), 0, none⟩) (by simp; try omega) _).setCell (p := ⟨(w.heap.size + 1 + 1), 1, none⟩) (by simp; try omega) _).setCell (p := ⟨(w.heap.size + 1 + 1), 2, none⟩) (by simp; try omega) _)
end Go.Proofs.Ytggkoihlmijacaa
