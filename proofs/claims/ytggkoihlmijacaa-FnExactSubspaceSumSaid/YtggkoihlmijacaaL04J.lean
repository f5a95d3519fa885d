/- The model's l03Fit, SubspaceSum. -/
import Derived.Test.YtggkoihlmijacaaL04C
import Derived.Test.YtggkoihlmijacaaKB
import Derived.Test.YtggkoihlmijacaaL02X
import Derived.Test.YtggkoihlmijacaaL02L
import Derived.Test.YtggkoihlmijacaaSz
namespace Go.Proofs.Ytggkoihlmijacaa
open Go.RowKit
set_option linter.unusedVariables false
set_option linter.unusedSimpArgs false

set_option maxRecDepth 100000 in
set_option maxHeartbeats 1000000 in
theorem sFit_yes (v0 : Value) (x0 : Mat) (v1 : Value) (x1 : Mat) (w : World) (h0 : spMat.rd w v0 x0) (h1 : spMat.rd w v1 x1) (hf : (x0.P = x1.P ∧ x0.C = x1.C)) : Calls Try.prog 60 #[v0, v1] w (RetB true w) := by
  obtain ⟨A0, n0, c0, rfl, r0⟩ := spMat_form h0
  obtain ⟨rfl, -, -, -⟩ := rdII_of r0
  obtain ⟨A1, n1, c1, rfl, r1⟩ := spMat_form h1
  obtain ⟨rfl, -, -, -⟩ := rdII_of r1
  have L : Below w.heap.size w ((w.alloc (.cells [.int .i64 x0.P, .int .i64 x0.C, .slice A0 x0.R.length c0].toArray 27)).alloc (.cells [.int .i64 x1.P, .int .i64 x1.C, .slice A1 x1.R.length c1].toArray 27)) := by go_grown
  have Ba0 : Blk ((w.alloc (.cells [.int .i64 x0.P, .int .i64 x0.C, .slice A0 x0.R.length c0].toArray 27)).alloc (.cells [.int .i64 x1.P, .int .i64 x1.C, .slice A1 x1.R.length c1].toArray 27)) w.heap.size [.int .i64 x0.P, .int .i64 x0.C, .slice A0 x0.R.length c0] 27 := by have := (Blk.new w [.int .i64 x0.P, .int .i64 x0.C, .slice A0 x0.R.length c0] 27).alloc (.cells [.int .i64 x1.P, .int .i64 x1.C, .slice A1 x1.R.length c1].toArray 27); simpa only [World.size_alloc] using this
  have Ba1 : Blk ((w.alloc (.cells [.int .i64 x0.P, .int .i64 x0.C, .slice A0 x0.R.length c0].toArray 27)).alloc (.cells [.int .i64 x1.P, .int .i64 x1.C, .slice A1 x1.R.length c1].toArray 27)) (w.heap.size + 1) [.int .i64 x1.P, .int .i64 x1.C, .slice A1 x1.R.length c1] 27 := by have := Blk.new (w.alloc (.cells [.int .i64 x0.P, .int .i64 x0.C, .slice A0 x0.R.length c0].toArray 27)) [.int .i64 x1.P, .int .i64 x1.C, .slice A1 x1.R.length c1] 27; simpa only [World.size_alloc] using this
  have K0 := Lib.hid (spMat.rd_below h0 L)
  have R0 := Lib.hid (spII.rd_below r0 L)
  clear h0 r0
  have K1 := Lib.hid (spMat.rd_below h1 L)
  have R1 := Lib.hid (spII.rd_below r1 L)
  clear h1 r1
  have tP : (x0.P == x1.P) = true := by simp [hf.1]
  have tC : (x0.C == x1.C) = true := by simp [hf.2]
  clear hf
  go_enter Try.func60, Try.ntmps60
  go_wp2_with (fail)
  go_ret
  exact ⟨rfl, L⟩
set_option maxRecDepth 100000 in
set_option maxHeartbeats 1000000 in
theorem sFit_no (v0 : Value) (x0 : Mat) (v1 : Value) (x1 : Mat) (w : World) (h0 : spMat.rd w v0 x0) (h1 : spMat.rd w v1 x1) (hf : ¬ (x0.P = x1.P ∧ x0.C = x1.C)) : Calls Try.prog 60 #[v0, v1] w (RetB false w) := by
  obtain ⟨A0, n0, c0, rfl, r0⟩ := spMat_form h0
  obtain ⟨rfl, -, -, -⟩ := rdII_of r0
  obtain ⟨A1, n1, c1, rfl, r1⟩ := spMat_form h1
  obtain ⟨rfl, -, -, -⟩ := rdII_of r1
  have L : Below w.heap.size w ((w.alloc (.cells [.int .i64 x0.P, .int .i64 x0.C, .slice A0 x0.R.length c0].toArray 27)).alloc (.cells [.int .i64 x1.P, .int .i64 x1.C, .slice A1 x1.R.length c1].toArray 27)) := by go_grown
  have Ba0 : Blk ((w.alloc (.cells [.int .i64 x0.P, .int .i64 x0.C, .slice A0 x0.R.length c0].toArray 27)).alloc (.cells [.int .i64 x1.P, .int .i64 x1.C, .slice A1 x1.R.length c1].toArray 27)) w.heap.size [.int .i64 x0.P, .int .i64 x0.C, .slice A0 x0.R.length c0] 27 := by have := (Blk.new w [.int .i64 x0.P, .int .i64 x0.C, .slice A0 x0.R.length c0] 27).alloc (.cells [.int .i64 x1.P, .int .i64 x1.C, .slice A1 x1.R.length c1].toArray 27); simpa only [World.size_alloc] using this
  have Ba1 : Blk ((w.alloc (.cells [.int .i64 x0.P, .int .i64 x0.C, .slice A0 x0.R.length c0].toArray 27)).alloc (.cells [.int .i64 x1.P, .int .i64 x1.C, .slice A1 x1.R.length c1].toArray 27)) (w.heap.size + 1) [.int .i64 x1.P, .int .i64 x1.C, .slice A1 x1.R.length c1] 27 := by have := Blk.new (w.alloc (.cells [.int .i64 x0.P, .int .i64 x0.C, .slice A0 x0.R.length c0].toArray 27)) [.int .i64 x1.P, .int .i64 x1.C, .slice A1 x1.R.length c1] 27; simpa only [World.size_alloc] using this
  have K0 := Lib.hid (spMat.rd_below h0 L)
  have R0 := Lib.hid (spII.rd_below r0 L)
  clear h0 r0
  have K1 := Lib.hid (spMat.rd_below h1 L)
  have R1 := Lib.hid (spII.rd_below r1 L)
  clear h1 r1
  by_cases hP : x0.P = x1.P
  · have tP : (x0.P == x1.P) = true := by simp [hP]
    have tC : (x0.C == x1.C) = false := by simpa using fun e => hf ⟨hP, e⟩
    clear hf hP
    go_enter Try.func60, Try.ntmps60
    go_wp2_with (fail)
    go_ret
    exact ⟨rfl, L⟩
  · have tP : (x0.P == x1.P) = false := by simpa using hP
    clear hf hP
    go_enter Try.func60, Try.ntmps60
    go_wp2_with (fail)
    go_ret
    exact ⟨rfl, L⟩
theorem two_no (x0 x1 : Mat) (h0 : x0.sub = true) (h1 : x1.sub = true) (hf : ¬ (x0.P = x1.P ∧ x0.C = x1.C)) : x0.two x1 = 2 := by
  unfold Mat.two
  rw [if_neg (by simp [h0, h1]), if_pos]
  by_cases e : x0.P = x1.P
  · exact .inr fun e2 => hf ⟨e, e2⟩
  · exact .inl e
theorem two_yes (x0 x1 : Mat) (h0 : x0.sub = true) (h1 : x1.sub = true) (hf : x0.P = x1.P ∧ x0.C = x1.C) : x0.two x1 = 0 := by
  unfold Mat.two
  rw [if_neg (by simp [h0, h1]), if_neg]
  rintro (e | e)
  · exact e hf.1
  · exact e hf.2
theorem two_bad1 (x0 x1 : Mat) (h0 : x0.sub = false) : x0.two x1 = 1 := by unfold Mat.two; simp [h0]
theorem two_bad2 (x0 x1 : Mat) (h0 : x1.sub = false) : x0.two x1 = 1 := by unfold Mat.two; simp [h0]
set_option maxRecDepth 100000 in
set_option maxHeartbeats 8000000 in
theorem sSubspaceSum_ok (v0 : Value) (x0 : Mat) (v1 : Value) (x1 : Mat) (w : World) (h0 : spMat.rd w v0 x0) (h1 : spMat.rd w v1 x1) (s0 : spMat.sz x0 ≤ 1048576) (s1 : spMat.sz x1 ≤ 1048576) : Calls Try.prog 22 #[v0, v1] w (MadeC spMat (rSubspaceSum x0 x1) (cSubspaceSum x0 x1) w) := by
  obtain ⟨i0, hi, hz0, hz1, hz2⟩ := info_parts infoII
  obtain ⟨A0, n0, c0, rfl, r0⟩ := spMat_form h0
  obtain ⟨rfl, -, -, -⟩ := rdII_of r0
  obtain ⟨A1, n1, c1, rfl, r1⟩ := spMat_form h1
  obtain ⟨rfl, -, -, -⟩ := rdII_of r1
  have L : Below w.heap.size w (((w.alloc (.cells [.int .i64 x0.P, .int .i64 x0.C, .slice A0 x0.R.length c0].toArray 27)).alloc (.cells [.int .i64 x1.P, .int .i64 x1.C, .slice A1 x1.R.length c1].toArray 27)).alloc (.cells [.int .i64 0, .int .i64 0, .slice none 0 0].toArray 27)) := by go_grown
  have Ba0 : Blk (((w.alloc (.cells [.int .i64 x0.P, .int .i64 x0.C, .slice A0 x0.R.length c0].toArray 27)).alloc (.cells [.int .i64 x1.P, .int .i64 x1.C, .slice A1 x1.R.length c1].toArray 27)).alloc (.cells [.int .i64 0, .int .i64 0, .slice none 0 0].toArray 27)) w.heap.size [.int .i64 x0.P, .int .i64 x0.C, .slice A0 x0.R.length c0] 27 := by have := ((Blk.new w [.int .i64 x0.P, .int .i64 x0.C, .slice A0 x0.R.length c0] 27).alloc (.cells [.int .i64 x1.P, .int .i64 x1.C, .slice A1 x1.R.length c1].toArray 27)).alloc (.cells [.int .i64 0, .int .i64 0, .slice none 0 0].toArray 27); simpa only [World.size_alloc] using this
  have Ba1 : Blk (((w.alloc (.cells [.int .i64 x0.P, .int .i64 x0.C, .slice A0 x0.R.length c0].toArray 27)).alloc (.cells [.int .i64 x1.P, .int .i64 x1.C, .slice A1 x1.R.length c1].toArray 27)).alloc (.cells [.int .i64 0, .int .i64 0, .slice none 0 0].toArray 27)) (w.heap.size + 1) [.int .i64 x1.P, .int .i64 x1.C, .slice A1 x1.R.length c1] 27 := by have := (Blk.new (w.alloc (.cells [.int .i64 x0.P, .int .i64 x0.C, .slice A0 x0.R.length c0].toArray 27)) [.int .i64 x1.P, .int .i64 x1.C, .slice A1 x1.R.length c1] 27).alloc (.cells [.int .i64 0, .int .i64 0, .slice none 0 0].toArray 27); simpa only [World.size_alloc] using this
  have Br : Blk (((w.alloc (.cells [.int .i64 x0.P, .int .i64 x0.C, .slice A0 x0.R.length c0].toArray 27)).alloc (.cells [.int .i64 x1.P, .int .i64 x1.C, .slice A1 x1.R.length c1].toArray 27)).alloc (.cells [.int .i64 0, .int .i64 0, .slice none 0 0].toArray 27)) (w.heap.size + 1 + 1) [.int .i64 0, .int .i64 0, .slice none 0 0] 27 := by have := Blk.new ((w.alloc (.cells [.int .i64 x0.P, .int .i64 x0.C, .slice A0 x0.R.length c0].toArray 27)).alloc (.cells [.int .i64 x1.P, .int .i64 x1.C, .slice A1 x1.R.length c1].toArray 27)) [.int .i64 0, .int .i64 0, .slice none 0 0] 27; simpa only [World.size_alloc] using this
  have K0 := Lib.hid (spMat.rd_below h0 L)
  have R0 := Lib.hid (spII.rd_below r0 L)
  clear h0 r0
  have K1 := Lib.hid (spMat.rd_below h1 L)
  have R1 := Lib.hid (spII.rd_below r1 L)
  clear h1 r1
  cases hk0 : x0.sub with
  | false =>
    have HEC : Hid (cSubspaceSum x0 x1 = 1) := Lib.hid (two_bad1 _ _ hk0)
    have HER : Hid (rSubspaceSum x0 x1 = noMat) := Lib.hid (by unfold rSubspaceSum; rw [if_neg (by have := HEC.out; unfold cSubspaceSum at this; omega)])
    have HC := Lib.hid (sIsSub_no _ x0 _ K0.out hk0)
    clear hk0
    go_enter Try.func22, Try.ntmps22
    go_wp2_with (fail)
    refine (HC.out).mono ?_; rintro e w1 ⟨rfl, hb⟩
    replace L := bstep L L.size hb
    replace Ba0 := Ba0.below hb
    replace Ba1 := Ba1.below hb
    replace Br := Br.below hb
    replace K0 := Lib.hid (spMat.rd_below K0.out hb)
    replace R0 := Lib.hid (spII.rd_below R0.out hb)
    replace K1 := Lib.hid (spMat.rd_below K1.out hb)
    replace R1 := Lib.hid (spII.rd_below R1.out hb)
    clear hb
    obtain ⟨bla0, qa00, qa01, qa02⟩ := Ba0.c3
    obtain ⟨bla1, qa10, qa11, qa12⟩ := Ba1.c3
    obtain ⟨blr, qr0, qr1, qr2⟩ := Br.c3
    obtain ⟨f0, f1, f2⟩ := Br.f3
    go_wp2_with (fail)
    refine bodyPost_ret (v := .tuple #[.agg #[.int .i64 0, .int .i64 0, .slice none 0 0], .int .i64 1]) (by simp [results, Try.results22, go_sem, bla0, qa00, qa01, qa02, bla1, qa10, qa11, qa12, blr, qr0, qr1, qr2]) rfl ?_
    rw [HER.out, HEC.out]
    exact MadeC.none rfl ((((L).setCell (p := ⟨(w.heap.size + 1 + 1), 0, none⟩) (by simp; try omega) _).setCell (p := ⟨(w.heap.size + 1 + 1), 1, none⟩) (by simp; try omega) _).setCell (p := ⟨(w.heap.size + 1 + 1), 2, none⟩) (by simp; try omega) _)
  | true =>
    have HC := Lib.hid (sIsSub_yes _ x0 _ K0.out hk0)
    cases hk1 : x1.sub with
    | false =>
      have HEC : Hid (cSubspaceSum x0 x1 = 1) := Lib.hid (two_bad2 _ _ hk1)
      have HER : Hid (rSubspaceSum x0 x1 = noMat) := Lib.hid (by unfold rSubspaceSum; rw [if_neg (by have := HEC.out; unfold cSubspaceSum at this; omega)])
      have HK1 := Lib.hid hk1
      clear hk0 hk1
      go_enter Try.func22, Try.ntmps22
      go_wp2_with (fail)
      refine (HC.out).mono ?_; rintro e w1 ⟨rfl, hb⟩
      replace L := bstep L L.size hb
      replace Ba0 := Ba0.below hb
      replace Ba1 := Ba1.below hb
      replace Br := Br.below hb
      replace K0 := Lib.hid (spMat.rd_below K0.out hb)
      replace R0 := Lib.hid (spII.rd_below R0.out hb)
      replace K1 := Lib.hid (spMat.rd_below K1.out hb)
      replace R1 := Lib.hid (spII.rd_below R1.out hb)
      clear hb
      obtain ⟨bla0, qa00, qa01, qa02⟩ := Ba0.c3
      obtain ⟨bla1, qa10, qa11, qa12⟩ := Ba1.c3
      obtain ⟨blr, qr0, qr1, qr2⟩ := Br.c3
      obtain ⟨f0, f1, f2⟩ := Br.f3
      go_wp2_with (fail)
      refine (sIsSub_no _ x1 _ K1.out HK1.out).mono ?_; rintro e w2 ⟨rfl, hb⟩
      clear bla0 qa00 qa01 qa02
      clear bla1 qa10 qa11 qa12
      clear blr qr0 qr1 qr2
      clear f0 f1 f2
      replace L := bstep L L.size hb
      replace Ba0 := Ba0.below hb
      replace Ba1 := Ba1.below hb
      replace Br := Br.below hb
      replace K0 := Lib.hid (spMat.rd_below K0.out hb)
      replace R0 := Lib.hid (spII.rd_below R0.out hb)
      replace K1 := Lib.hid (spMat.rd_below K1.out hb)
      replace R1 := Lib.hid (spII.rd_below R1.out hb)
      clear hb
      obtain ⟨bla0, qa00, qa01, qa02⟩ := Ba0.c3
      obtain ⟨bla1, qa10, qa11, qa12⟩ := Ba1.c3
      obtain ⟨blr, qr0, qr1, qr2⟩ := Br.c3
      obtain ⟨f0, f1, f2⟩ := Br.f3
      go_wp2_with (fail)
      refine bodyPost_ret (v := .tuple #[.agg #[.int .i64 0, .int .i64 0, .slice none 0 0], .int .i64 1]) (by simp [results, Try.results22, go_sem, bla0, qa00, qa01, qa02, bla1, qa10, qa11, qa12, blr, qr0, qr1, qr2]) rfl ?_
      rw [HER.out, HEC.out]
      exact MadeC.none rfl ((((L).setCell (p := ⟨(w.heap.size + 1 + 1), 0, none⟩) (by simp; try omega) _).setCell (p := ⟨(w.heap.size + 1 + 1), 1, none⟩) (by simp; try omega) _).setCell (p := ⟨(w.heap.size + 1 + 1), 2, none⟩) (by simp; try omega) _)
    | true =>
      have HK0 := Lib.hid hk0
      have HK1 := Lib.hid hk1
      by_cases hf : x0.P = x1.P ∧ x0.C = x1.C
      · obtain ⟨h1, h2, h3, h4, h5, h6, h7⟩ := Mat.sub_out hk0
        obtain ⟨k1, k2, k3, k4, k5, k6, k7⟩ := Mat.sub_out hk1
        have hv : Num.Vecs x0.P x0.C.toNat (x0.R ++ x1.R) := Num.vecs_app h7.vecs (by rw [hf.1, hf.2]; exact k7.vecs)
        have HEC : Hid (cSubspaceSum x0 x1 = 0) := Lib.hid (two_yes _ _ hk0 hk1 hf)
        have HER : Hid (rSubspaceSum x0 x1 = ⟨x0.P, x0.C, Num.reduceR x0.P (x0.R ++ x1.R)⟩) := Lib.hid (by unfold rSubspaceSum; rw [if_pos (two_yes _ _ hk0 hk1 hf)])
        have hs := Mat.sub_of h1 h4 h5 (Num.ech_reduce_all h1 fun i hi => hv.at_ hi)
        have HCB : Hid (spMat.cnt ⟨x0.P, x0.C, Num.reduceR x0.P (x0.R ++ x1.R)⟩ ≤ 1000000000) := Lib.hid (Mat.ok_cnt (Mat.sub_ok hs))
        have HSZ : Hid (spII.sz (Num.reduceR x0.P (x0.R ++ x1.R)) ≤ 1048576) := Lib.hid (Mat.ok_sz (Mat.sub_ok hs))
        have HOZ : Hid (spII.sz x0.R ≤ 1048576) := Lib.hid (Mat.ok_sz (Mat.sub_ok hk0))
        have HV := Lib.hid hv
        have HGP := Lib.hid h1
        have HF := Lib.hid hf
        have l8 : x0.R.length ≤ 8 := h6
        have l8' : x1.R.length ≤ 8 := k6
        have hC8 : x0.C.toNat ≤ 8 := by omega
        have ne1 : ¬ (w.heap.size = w.heap.size + 1) := by omega
        have ne2 : ¬ (w.heap.size + 1 = w.heap.size) := by omega
        have ne3 : ¬ (w.heap.size = w.heap.size + 1 + 1) := by omega
        have ne4 : ¬ (w.heap.size + 1 = w.heap.size + 1 + 1) := by omega
        have ne5 : ¬ (w.heap.size + 1 + 1 = w.heap.size) := by omega
        have ne6 : ¬ (w.heap.size + 1 + 1 = w.heap.size + 1) := by omega
        have H2 : Hid (∀ W u, spII.rd W u (x0.R ++ x1.R) → Calls Try.prog 45 #[.int .i64 x0.P, u] W (Made spII (Num.reduceR x0.P (x0.R ++ x1.R)) W)) := Lib.hid fun W u hu => sReduce_any x0.P u _ x0.C.toNat W hu h1 (fun i hi => hv.at_ hi) (by omega) (by rw [List.length_append]; omega)
        have H3 : Hid (∀ W u, spII.rd W u (Num.reduceR x0.P (x0.R ++ x1.R)) → Calls Try.prog 61 #[.int .i64 x0.P, .int .i64 x0.C, u] W (Made spMat ⟨x0.P, x0.C, Num.reduceR x0.P (x0.R ++ x1.R)⟩ W)) := Lib.hid fun W u hu => sMake_any x0.P x0.C u _ W hu HSZ.out
        clear hk0 hk1 hf h1 h2 h3 h4 h5 h6 h7 k1 k2 k3 k4 k5 k6 k7 hv hs HV HGP hC8
        generalize Num.reduceR x0.P (x0.R ++ x1.R) = RE at *
        go_enter Try.func22, Try.ntmps22
        go_wp2_with (fail)
        refine (HC.out).mono ?_; rintro e w1 ⟨rfl, hb⟩
        replace L := bstep L L.size hb
        replace Ba0 := Ba0.below hb
        replace Ba1 := Ba1.below hb
        replace Br := Br.below hb
        replace K0 := Lib.hid (spMat.rd_below K0.out hb)
        replace R0 := Lib.hid (spII.rd_below R0.out hb)
        replace K1 := Lib.hid (spMat.rd_below K1.out hb)
        replace R1 := Lib.hid (spII.rd_below R1.out hb)
        clear hb
        obtain ⟨bla0, qa00, qa01, qa02⟩ := Ba0.c3
        obtain ⟨bla1, qa10, qa11, qa12⟩ := Ba1.c3
        obtain ⟨blr, qr0, qr1, qr2⟩ := Br.c3
        obtain ⟨f0, f1, f2⟩ := Br.f3
        go_wp2_with (fail)
        refine (sIsSub_yes _ x1 _ K1.out HK1.out).mono ?_; rintro e w2 ⟨rfl, hb⟩
        clear bla0 qa00 qa01 qa02
        clear bla1 qa10 qa11 qa12
        clear blr qr0 qr1 qr2
        clear f0 f1 f2
        replace L := bstep L L.size hb
        replace Ba0 := Ba0.below hb
        replace Ba1 := Ba1.below hb
        replace Br := Br.below hb
        replace K0 := Lib.hid (spMat.rd_below K0.out hb)
        replace R0 := Lib.hid (spII.rd_below R0.out hb)
        replace K1 := Lib.hid (spMat.rd_below K1.out hb)
        replace R1 := Lib.hid (spII.rd_below R1.out hb)
        clear hb
        obtain ⟨bla0, qa00, qa01, qa02⟩ := Ba0.c3
        obtain ⟨bla1, qa10, qa11, qa12⟩ := Ba1.c3
        obtain ⟨blr, qr0, qr1, qr2⟩ := Br.c3
        obtain ⟨f0, f1, f2⟩ := Br.f3
        go_wp2_with (fail)
        refine (sFit_yes _ x0 _ x1 _ K0.out K1.out HF.out).mono ?_; rintro e w3 ⟨rfl, hb⟩
        clear bla0 qa00 qa01 qa02
        clear bla1 qa10 qa11 qa12
        clear blr qr0 qr1 qr2
        clear f0 f1 f2
        replace L := bstep L L.size hb
        replace Ba0 := Ba0.below hb
        replace Ba1 := Ba1.below hb
        replace Br := Br.below hb
        replace K0 := Lib.hid (spMat.rd_below K0.out hb)
        replace R0 := Lib.hid (spII.rd_below R0.out hb)
        replace K1 := Lib.hid (spMat.rd_below K1.out hb)
        replace R1 := Lib.hid (spII.rd_below R1.out hb)
        clear hb
        obtain ⟨bla0, qa00, qa01, qa02⟩ := Ba0.c3
        obtain ⟨bla1, qa10, qa11, qa12⟩ := Ba1.c3
        obtain ⟨blr, qr0, qr1, qr2⟩ := Br.c3
        obtain ⟨f0, f1, f2⟩ := Br.f3
        have LC0 : Below w3.heap.size w3 w3.drew := (Below.refl _ _).drew
        go_wp2_with (fail)
        clear blr qr0 qr1 qr2
        clear f0 f1 f2
        go_region_held3 (fun wx => wx.cell? ⟨w.heap.size, 0, none⟩ = some (.int .i64 x0.P) ∧ wx.cell? ⟨w.heap.size, 1, none⟩ = some (.int .i64 x0.C) ∧ wx.cell? ⟨w.heap.size, 2, none⟩ = some (.slice A0 x0.R.length c0) ∧ wx.cell? ⟨(w.heap.size + 1), 0, none⟩ = some (.int .i64 x1.P) ∧ wx.cell? ⟨(w.heap.size + 1), 1, none⟩ = some (.int .i64 x1.C) ∧ wx.cell? ⟨(w.heap.size + 1), 2, none⟩ = some (.slice A1 x1.R.length c1)) (first | assumption | go_keep) (first
            | (go_at_call 62; refine (sOwn2_any _ x0.R _ (spII.rd_below R0.out LC0) HOZ.out).mono ?_; rintro e w4 ⟨uo, So, rfl, owo, hSo, hbo⟩; have LC1 := bstep LC0 LC0.size hbo; obtain ⟨Ao, co, rfl, -, -⟩ := spII.own_rd owo; obtain ⟨vs, news, a1, a2, a3, a4, a5, a6⟩ := Bag.append (w0 := w3) (s := spI) (nul := []) one_spI (Bag.of_own (B := w3.heap.size) owo (fun k h => hSo k h)) LC1 R1.out; have SMo : w4.cell? ⟨w.heap.size, 0, none⟩ = some (.int .i64 x0.P) ∧ w4.cell? ⟨w.heap.size, 1, none⟩ = some (.int .i64 x0.C) ∧ w4.cell? ⟨w.heap.size, 2, none⟩ = some (.slice A0 x0.R.length c0) ∧ w4.cell? ⟨(w.heap.size + 1), 0, none⟩ = some (.int .i64 x1.P) ∧ w4.cell? ⟨(w.heap.size + 1), 1, none⟩ = some (.int .i64 x1.C) ∧ w4.cell? ⟨(w.heap.size + 1), 2, none⟩ = some (.slice A1 x1.R.length c1) := ⟨(Blk.cell (Ba0.below LC1) 0 (by simp)), (Blk.cell (Ba0.below LC1) 1 (by simp)), (Blk.cell (Ba0.below LC1) 2 (by simp)), (Blk.cell (Ba1.below LC1) 0 (by simp)), (Blk.cell (Ba1.below LC1) 1 (by simp)), (Blk.cell (Ba1.below LC1) 2 (by simp))⟩)
            | (go_at_call 45; refine (H2.out _ _ rdb).mono ?_; rintro e w6 ⟨ur, Sr, rfl, owr, hSr, hbr⟩; have LC3 := bstep LC2 LC2.size hbr; have SMr : w6.cell? ⟨w.heap.size, 0, none⟩ = some (.int .i64 x0.P) ∧ w6.cell? ⟨w.heap.size, 1, none⟩ = some (.int .i64 x0.C) ∧ w6.cell? ⟨w.heap.size, 2, none⟩ = some (.slice A0 x0.R.length c0) ∧ w6.cell? ⟨(w.heap.size + 1), 0, none⟩ = some (.int .i64 x1.P) ∧ w6.cell? ⟨(w.heap.size + 1), 1, none⟩ = some (.int .i64 x1.C) ∧ w6.cell? ⟨(w.heap.size + 1), 2, none⟩ = some (.slice A1 x1.R.length c1) := ⟨(Blk.cell (Ba0.below LC3) 0 (by simp)), (Blk.cell (Ba0.below LC3) 1 (by simp)), (Blk.cell (Ba0.below LC3) 2 (by simp)), (Blk.cell (Ba1.below LC3) 0 (by simp)), (Blk.cell (Ba1.below LC3) 1 (by simp)), (Blk.cell (Ba1.below LC3) 2 (by simp))⟩)
            | (go_at_call 61; refine (H3.out _ _ (spII.own_rd owr)).mono ?_; rintro e w7 ⟨um, Sm, rfl, ⟨vm, Tm, rfl, om, subm, -⟩, hSm, hbm⟩; obtain ⟨Am, cm, rfl, -, -⟩ := spII.own_rd om; have LC4 := bstep LC3 LC3.size hbm; have SMm : w7.cell? ⟨w.heap.size, 0, none⟩ = some (.int .i64 x0.P) ∧ w7.cell? ⟨w.heap.size, 1, none⟩ = some (.int .i64 x0.C) ∧ w7.cell? ⟨w.heap.size, 2, none⟩ = some (.slice A0 x0.R.length c0) ∧ w7.cell? ⟨(w.heap.size + 1), 0, none⟩ = some (.int .i64 x1.P) ∧ w7.cell? ⟨(w.heap.size + 1), 1, none⟩ = some (.int .i64 x1.C) ∧ w7.cell? ⟨(w.heap.size + 1), 2, none⟩ = some (.slice A1 x1.R.length c1) := ⟨(Blk.cell (Ba0.below LC4) 0 (by simp)), (Blk.cell (Ba0.below LC4) 1 (by simp)), (Blk.cell (Ba0.below LC4) 2 (by simp)), (Blk.cell (Ba1.below LC4) 0 (by simp)), (Blk.cell (Ba1.below LC4) 1 (by simp)), (Blk.cell (Ba1.below LC4) 2 (by simp))⟩; have Brz := Br.below LC4; obtain ⟨blr, qr0, qr1, qr2⟩ := Brz.c3; obtain ⟨f0, f1, f2⟩ := Brz.f3)
            | (refine step_append_list _ rfl _ _ 22 rfl w3.heap.size 31 i0 (.slice none 0 0) 24 Try.underlying22 hi hz0 hz1 hz2 rfl (.slice Ao x0.R.length co) x0.R.length vs rfl a1 A1 x1.R.length c1 news a2 rfl a3 a4 (by unfold maxLen; omega) (by omega) LC1.size ?_; intro va w5 owna gra ata; obtain ⟨bag, LC2⟩ := a6 va w5 owna gra ata; obtain ⟨Aa, ca, hva⟩ := bag.form; rw [List.length_append] at hva; subst hva; have rdb := Bag.rdII bag; clear owna gra ata a1 a2 a3 a4 a5 a6 bag; have SMap : w5.cell? ⟨w.heap.size, 0, none⟩ = some (.int .i64 x0.P) ∧ w5.cell? ⟨w.heap.size, 1, none⟩ = some (.int .i64 x0.C) ∧ w5.cell? ⟨w.heap.size, 2, none⟩ = some (.slice A0 x0.R.length c0) ∧ w5.cell? ⟨(w.heap.size + 1), 0, none⟩ = some (.int .i64 x1.P) ∧ w5.cell? ⟨(w.heap.size + 1), 1, none⟩ = some (.int .i64 x1.C) ∧ w5.cell? ⟨(w.heap.size + 1), 2, none⟩ = some (.slice A1 x1.R.length c1) := ⟨(Blk.cell (Ba0.below LC2) 0 (by simp)), (Blk.cell (Ba0.below LC2) 1 (by simp)), (Blk.cell (Ba0.below LC2) 2 (by simp)), (Blk.cell (Ba1.below LC2) 0 (by simp)), (Blk.cell (Ba1.below LC2) 1 (by simp)), (Blk.cell (Ba1.below LC2) 2 (by simp))⟩))
        all_goals
          have LZ := bstep L L.size LC4
          have ltz := Br.lt
          have hq0 := LC3.size
          have hqL := L.size
          have HT : Hid (∀ k, Tm k → w.heap.size ≤ k) := Lib.hid fun k h => by have := hSm k (subm k h); omega
          have nT : ¬ Tm (w.heap.size + 1 + 1) := fun h => by have := hSm _ (subm _ h); omega
          have HO := Lib.hid om
          clear om subm hSm
          go_wp2_with (fail)
          refine bodyPost_ret (v := .tuple #[.agg #[.int .i64 x0.P, .int .i64 x0.C, .slice Am (RE).length cm], .int .i64 0]) (by simp [results, Try.results22, go_sem, blr, qr0, qr1, qr2]) rfl ?_
          rw [HER.out, HEC.out]
          refine MadeC.mat (S := Tm) rfl ?_ HT.out HCB.out ?_
          · exact spII.own_set (spII.own_set (spII.own_set (HO.out) (p := ⟨(w.heap.size + 1 + 1), 0, none⟩) nT _) (p := ⟨(w.heap.size + 1 + 1), 1, none⟩) nT _) (p := ⟨(w.heap.size + 1 + 1), 2, none⟩) nT _
          · exact (((LZ).setCell (p := ⟨(w.heap.size + 1 + 1), 0, none⟩) (by simp; try omega) _).setCell (p := ⟨(w.heap.size + 1 + 1), 1, none⟩) (by simp; try omega) _).setCell (p := ⟨(w.heap.size + 1 + 1), 2, none⟩) (by simp; try omega) _
      · have HEC : Hid (cSubspaceSum x0 x1 = 2) := Lib.hid (two_no _ _ hk0 hk1 hf)
        have HER : Hid (rSubspaceSum x0 x1 = noMat) := Lib.hid (by unfold rSubspaceSum; rw [if_neg (by have := HEC.out; unfold cSubspaceSum at this; omega)])
        have HF := Lib.hid hf
        clear hk0 hk1 hf
        go_enter Try.func22, Try.ntmps22
        go_wp2_with (fail)
        refine (HC.out).mono ?_; rintro e w1 ⟨rfl, hb⟩
        replace L := bstep L L.size hb
        replace Ba0 := Ba0.below hb
        replace Ba1 := Ba1.below hb
        replace Br := Br.below hb
        replace K0 := Lib.hid (spMat.rd_below K0.out hb)
        replace R0 := Lib.hid (spII.rd_below R0.out hb)
        replace K1 := Lib.hid (spMat.rd_below K1.out hb)
        replace R1 := Lib.hid (spII.rd_below R1.out hb)
        clear hb
        obtain ⟨bla0, qa00, qa01, qa02⟩ := Ba0.c3
        obtain ⟨bla1, qa10, qa11, qa12⟩ := Ba1.c3
        obtain ⟨blr, qr0, qr1, qr2⟩ := Br.c3
        obtain ⟨f0, f1, f2⟩ := Br.f3
        go_wp2_with (fail)
        refine (sIsSub_yes _ x1 _ K1.out HK1.out).mono ?_; rintro e w2 ⟨rfl, hb⟩
        clear bla0 qa00 qa01 qa02
        clear bla1 qa10 qa11 qa12
        clear blr qr0 qr1 qr2
        clear f0 f1 f2
        replace L := bstep L L.size hb
        replace Ba0 := Ba0.below hb
        replace Ba1 := Ba1.below hb
        replace Br := Br.below hb
        replace K0 := Lib.hid (spMat.rd_below K0.out hb)
        replace R0 := Lib.hid (spII.rd_below R0.out hb)
        replace K1 := Lib.hid (spMat.rd_below K1.out hb)
        replace R1 := Lib.hid (spII.rd_below R1.out hb)
        clear hb
        obtain ⟨bla0, qa00, qa01, qa02⟩ := Ba0.c3
        obtain ⟨bla1, qa10, qa11, qa12⟩ := Ba1.c3
        obtain ⟨blr, qr0, qr1, qr2⟩ := Br.c3
        obtain ⟨f0, f1, f2⟩ := Br.f3
        go_wp2_with (fail)
        refine (sFit_no _ x0 _ x1 _ K0.out K1.out HF.out).mono ?_; rintro e w3 ⟨rfl, hb⟩
        clear bla0 qa00 qa01 qa02
        clear bla1 qa10 qa11 qa12
        clear blr qr0 qr1 qr2
        clear f0 f1 f2
        replace L := bstep L L.size hb
        replace Ba0 := Ba0.below hb
        replace Ba1 := Ba1.below hb
        replace Br := Br.below hb
        replace K0 := Lib.hid (spMat.rd_below K0.out hb)
        replace R0 := Lib.hid (spII.rd_below R0.out hb)
        replace K1 := Lib.hid (spMat.rd_below K1.out hb)
        replace R1 := Lib.hid (spII.rd_below R1.out hb)
        clear hb
        obtain ⟨bla0, qa00, qa01, qa02⟩ := Ba0.c3
        obtain ⟨bla1, qa10, qa11, qa12⟩ := Ba1.c3
        obtain ⟨blr, qr0, qr1, qr2⟩ := Br.c3
        obtain ⟨f0, f1, f2⟩ := Br.f3
        go_wp2_with (fail)
        refine bodyPost_ret (v := .tuple #[.agg #[.int .i64 0, .int .i64 0, .slice none 0 0], .int .i64 2]) (by simp [results, Try.results22, go_sem, bla0, qa00, qa01, qa02, bla1, qa10, qa11, qa12, blr, qr0, qr1, qr2]) rfl ?_
        rw [HER.out, HEC.out]
        exact MadeC.none rfl ((((L).setCell (p := ⟨(w.heap.size + 1 + 1), 0, none⟩) (by simp; try omega) _).setCell (p := ⟨(w.heap.size + 1 + 1), 1, none⟩) (by simp; try omega) _).setCell (p := ⟨(w.heap.size + 1 + 1), 2, none⟩) (by simp; try omega) _)
end Go.Proofs.Ytggkoihlmijacaa
