/- The program's subspacesCode. -/
import Derived.Test.YtggkoihlmijacaaL04D
namespace Go.Proofs.Ytggkoihlmijacaa
open Go.RowKit
set_option linter.unusedVariables false
set_option linter.unusedSimpArgs false

set_option maxRecDepth 100000 in
set_option maxHeartbeats 2000000 in
theorem subspacesCode_ok (v0 : Value) (x0 : Mat) (v1 : Value) (x1 : Mat) (w : World) (h0 : spMat.rd w v0 x0) (h1 : spMat.rd w v1 x1)  : Calls Try.prog 63 #[v0, v1] w (fun e w' => e = .returned (.int .i64 (x0.two x1)) ∧ Below w.heap.size w w') := by
  obtain ⟨A0, n0, c0, rfl, r0⟩ := spMat_form h0
  obtain ⟨rfl, -, -, -⟩ := rdII_of r0
  obtain ⟨A1, n1, c1, rfl, r1⟩ := spMat_form h1
  obtain ⟨rfl, -, -, -⟩ := rdII_of r1
  have L : Below w.heap.size w ((w.alloc (.cells [.int .i64 x0.P, .int .i64 x0.C, .slice A0 x0.R.length c0].toArray 27)).alloc (.cells [.int .i64 x1.P, .int .i64 x1.C, .slice A1 x1.R.length c1].toArray 27)) := by go_grown
  have Ba0 : Blk ((w.alloc (.cells [.int .i64 x0.P, .int .i64 x0.C, .slice A0 x0.R.length c0].toArray 27)).alloc (.cells [.int .i64 x1.P, .int .i64 x1.C, .slice A1 x1.R.length c1].toArray 27)) w.heap.size [.int .i64 x0.P, .int .i64 x0.C, .slice A0 x0.R.length c0] 27 := by have := (Blk.new w [.int .i64 x0.P, .int .i64 x0.C, .slice A0 x0.R.length c0] 27).alloc (.cells [.int .i64 x1.P, .int .i64 x1.C, .slice A1 x1.R.length c1].toArray 27); simpa only [World.size_alloc] using this
  have Ba1 : Blk ((w.alloc (.cells [.int .i64 x0.P, .int .i64 x0.C, .slice A0 x0.R.length c0].toArray 27)).alloc (.cells [.int .i64 x1.P, .int .i64 x1.C, .slice A1 x1.R.length c1].toArray 27)) (w.heap.size + 1) [.int .i64 x1.P, .int .i64 x1.C, .slice A1 x1.R.length c1] 27 := by have := Blk.new (w.alloc (.cells [.int .i64 x0.P, .int .i64 x0.C, .slice A0 x0.R.length c0].toArray 27)) [.int .i64 x1.P, .int .i64 x1.C, .slice A1 x1.R.length c1] 27; simpa only [World.size_alloc] using this
  have K0 := Lib.hid (spMat.rd_below h0 L)
  have R0 := Lib.hid (spII.rd_below r0 L)
  clear h0 r0
  have K1 := Lib.hid (spMat.rd_below h1 L)
  have R1 := Lib.hid (spII.rd_below r1 L)
  clear h1 r1
  cases hk0 : x0.sub with
  | false =>
    have HE : Hid (x0.two x1 = 1) := Lib.hid (by unfold Mat.two; simp [hk0])
    have HC := Lib.hid (isSub_no _ x0 _ K0.out hk0)
    clear hk0
    go_enter Try.func63, Try.ntmps63
    go_wp2_with (fail)
    refine (HC.out).mono ?_; rintro e w1 ⟨rfl, hb⟩
    replace L := bstep L L.size hb
    replace Ba0 := Ba0.below hb
    replace Ba1 := Ba1.below hb
    replace K0 := Lib.hid (spMat.rd_below K0.out hb)
    replace R0 := Lib.hid (spII.rd_below R0.out hb)
    replace K1 := Lib.hid (spMat.rd_below K1.out hb)
    replace R1 := Lib.hid (spII.rd_below R1.out hb)
    clear hb
    obtain ⟨bla0, qa00, qa01, qa02⟩ := Ba0.c3
    obtain ⟨bla1, qa10, qa11, qa12⟩ := Ba1.c3
    go_wp2_with (fail)
    go_ret
    exact ⟨ret_i HE.out.symm, L⟩
  | true =>
    have HC := Lib.hid (isSub_yes _ x0 _ K0.out hk0)
    cases hk1 : x1.sub with
    | false =>
      have HE : Hid (x0.two x1 = 1) := Lib.hid (by unfold Mat.two; simp [hk1])
      have HK1 := Lib.hid hk1
      clear hk0 hk1
      go_enter Try.func63, Try.ntmps63
      go_wp2_with (fail)
      refine (HC.out).mono ?_; rintro e w1 ⟨rfl, hb⟩
      replace L := bstep L L.size hb
      replace Ba0 := Ba0.below hb
      replace Ba1 := Ba1.below hb
      replace K0 := Lib.hid (spMat.rd_below K0.out hb)
      replace R0 := Lib.hid (spII.rd_below R0.out hb)
      replace K1 := Lib.hid (spMat.rd_below K1.out hb)
      replace R1 := Lib.hid (spII.rd_below R1.out hb)
      clear hb
      obtain ⟨bla0, qa00, qa01, qa02⟩ := Ba0.c3
      obtain ⟨bla1, qa10, qa11, qa12⟩ := Ba1.c3
      go_wp2_with (fail)
      refine (isSub_no _ x1 _ K1.out HK1.out).mono ?_; rintro e w2 ⟨rfl, hb⟩
      clear bla0 qa00 qa01 qa02
      clear bla1 qa10 qa11 qa12
      replace L := bstep L L.size hb
      replace Ba0 := Ba0.below hb
      replace Ba1 := Ba1.below hb
      replace K0 := Lib.hid (spMat.rd_below K0.out hb)
      replace R0 := Lib.hid (spII.rd_below R0.out hb)
      replace K1 := Lib.hid (spMat.rd_below K1.out hb)
      replace R1 := Lib.hid (spII.rd_below R1.out hb)
      clear hb
      obtain ⟨bla0, qa00, qa01, qa02⟩ := Ba0.c3
      obtain ⟨bla1, qa10, qa11, qa12⟩ := Ba1.c3
      go_wp2_with (fail)
      go_ret
      exact ⟨ret_i HE.out.symm, L⟩
    | true =>
      have HK1 := Lib.hid hk1
      by_cases hP : x0.P = x1.P
      · have tP : (x0.P != x1.P) = false := by simp [hP]
        by_cases hC : x0.C = x1.C
        · have tC : (x0.C != x1.C) = false := by simp [hC]
          have HE : Hid (x0.two x1 = 0) := Lib.hid (by unfold Mat.two; simp [hk0, hk1, hP, hC])
          clear hk0 hk1 hP hC
          go_enter Try.func63, Try.ntmps63
          go_wp2_with (fail)
          refine (HC.out).mono ?_; rintro e w1 ⟨rfl, hb⟩
          replace L := bstep L L.size hb
          replace Ba0 := Ba0.below hb
          replace Ba1 := Ba1.below hb
          replace K0 := Lib.hid (spMat.rd_below K0.out hb)
          replace R0 := Lib.hid (spII.rd_below R0.out hb)
          replace K1 := Lib.hid (spMat.rd_below K1.out hb)
          replace R1 := Lib.hid (spII.rd_below R1.out hb)
          clear hb
          obtain ⟨bla0, qa00, qa01, qa02⟩ := Ba0.c3
          obtain ⟨bla1, qa10, qa11, qa12⟩ := Ba1.c3
          go_wp2_with (fail)
          refine (isSub_yes _ x1 _ K1.out HK1.out).mono ?_; rintro e w2 ⟨rfl, hb⟩
          clear bla0 qa00 qa01 qa02
          clear bla1 qa10 qa11 qa12
          replace L := bstep L L.size hb
          replace Ba0 := Ba0.below hb
          replace Ba1 := Ba1.below hb
          replace K0 := Lib.hid (spMat.rd_below K0.out hb)
          replace R0 := Lib.hid (spII.rd_below R0.out hb)
          replace K1 := Lib.hid (spMat.rd_below K1.out hb)
          replace R1 := Lib.hid (spII.rd_below R1.out hb)
          clear hb
          obtain ⟨bla0, qa00, qa01, qa02⟩ := Ba0.c3
          obtain ⟨bla1, qa10, qa11, qa12⟩ := Ba1.c3
          go_wp2_with (fail)
          go_ret
          exact ⟨ret_i HE.out.symm, L⟩
        · have tC : (x0.C != x1.C) = true := by simp [hC]
          have HE : Hid (x0.two x1 = 2) := Lib.hid (by unfold Mat.two; simp [hk0, hk1, hP, hC])
          clear hk0 hk1 hP hC
          go_enter Try.func63, Try.ntmps63
          go_wp2_with (fail)
          refine (HC.out).mono ?_; rintro e w1 ⟨rfl, hb⟩
          replace L := bstep L L.size hb
          replace Ba0 := Ba0.below hb
          replace Ba1 := Ba1.below hb
          replace K0 := Lib.hid (spMat.rd_below K0.out hb)
          replace R0 := Lib.hid (spII.rd_below R0.out hb)
          replace K1 := Lib.hid (spMat.rd_below K1.out hb)
          replace R1 := Lib.hid (spII.rd_below R1.out hb)
          clear hb
          obtain ⟨bla0, qa00, qa01, qa02⟩ := Ba0.c3
          obtain ⟨bla1, qa10, qa11, qa12⟩ := Ba1.c3
          go_wp2_with (fail)
          refine (isSub_yes _ x1 _ K1.out HK1.out).mono ?_; rintro e w2 ⟨rfl, hb⟩
          clear bla0 qa00 qa01 qa02
          clear bla1 qa10 qa11 qa12
          replace L := bstep L L.size hb
          replace Ba0 := Ba0.below hb
          replace Ba1 := Ba1.below hb
          replace K0 := Lib.hid (spMat.rd_below K0.out hb)
          replace R0 := Lib.hid (spII.rd_below R0.out hb)
          replace K1 := Lib.hid (spMat.rd_below K1.out hb)
          replace R1 := Lib.hid (spII.rd_below R1.out hb)
          clear hb
          obtain ⟨bla0, qa00, qa01, qa02⟩ := Ba0.c3
          obtain ⟨bla1, qa10, qa11, qa12⟩ := Ba1.c3
          go_wp2_with (fail)
          go_ret
          exact ⟨ret_i HE.out.symm, L⟩
      · have tP : (x0.P != x1.P) = true := by simp [hP]
        have HE : Hid (x0.two x1 = 2) := Lib.hid (by unfold Mat.two; simp [hk0, hk1, hP])
        clear hk0 hk1 hP
        go_enter Try.func63, Try.ntmps63
        go_wp2_with (fail)
        refine (HC.out).mono ?_; rintro e w1 ⟨rfl, hb⟩
        replace L := bstep L L.size hb
        replace Ba0 := Ba0.below hb
        replace Ba1 := Ba1.below hb
        replace K0 := Lib.hid (spMat.rd_below K0.out hb)
        replace R0 := Lib.hid (spII.rd_below R0.out hb)
        replace K1 := Lib.hid (spMat.rd_below K1.out hb)
        replace R1 := Lib.hid (spII.rd_below R1.out hb)
        clear hb
        obtain ⟨bla0, qa00, qa01, qa02⟩ := Ba0.c3
        obtain ⟨bla1, qa10, qa11, qa12⟩ := Ba1.c3
        go_wp2_with (fail)
        refine (isSub_yes _ x1 _ K1.out HK1.out).mono ?_; rintro e w2 ⟨rfl, hb⟩
        clear bla0 qa00 qa01 qa02
        clear bla1 qa10 qa11 qa12
        replace L := bstep L L.size hb
        replace Ba0 := Ba0.below hb
        replace Ba1 := Ba1.below hb
        replace K0 := Lib.hid (spMat.rd_below K0.out hb)
        replace R0 := Lib.hid (spII.rd_below R0.out hb)
        replace K1 := Lib.hid (spMat.rd_below K1.out hb)
        replace R1 := Lib.hid (spII.rd_below R1.out hb)
        clear hb
        obtain ⟨bla0, qa00, qa01, qa02⟩ := Ba0.c3
        obtain ⟨bla1, qa10, qa11, qa12⟩ := Ba1.c3
        go_wp2_with (fail)
        go_ret
        exact ⟨ret_i HE.out.symm, L⟩
end Go.Proofs.Ytggkoihlmijacaa
