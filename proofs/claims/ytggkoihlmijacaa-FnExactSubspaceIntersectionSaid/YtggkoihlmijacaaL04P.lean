/- The model's PreimageSubspace. -/
import Derived.Test.YtggkoihlmijacaaL04J
import Derived.Test.YtggkoihlmijacaaL03H
import Derived.Test.YtggkoihlmijacaaL03G
import Derived.Test.YtggkoihlmijacaaSz
namespace Go.Proofs.Ytggkoihlmijacaa
open Go.RowKit
set_option linter.unusedVariables false
set_option linter.unusedSimpArgs false

/-- The first entries of a row. -/
theorem spI_rd_take {w : World} {A : Option Addr} {n c : Nat} {x : List Int} {k : Nat} (h : spI.rd w (.slice A n c) x) (hk : k ≤ x.length) : spI.rd w (.slice A k c) (x.take k) := by
  obtain ⟨A', c', e, hm, h3⟩ := h
  simp only [Value.slice.injEq] at e
  obtain ⟨rfl, rfl, rfl⟩ := e
  have el : (x.take k).length = k := by rw [List.length_take]; omega
  refine ⟨A, c, by rw [el], by rw [el]; omega, fun j hj => ?_⟩
  rw [el] at hj
  have := h3 j (by omega)
  rwa [Num.take_get hj]
theorem Vec_take_ {p : Int} {n k : Nat} {v : List Int} (hp : Num.gp p = true) (h : Num.Vec p (n + k) v) : Num.Vec p n (v.take n) := h.take (by have := (Num.gp_le hp).1; omega)
set_option maxRecDepth 100000 in
set_option maxHeartbeats 8000000 in
theorem sPreimageSubspace_ok (v0 : Value) (x0 : Mat) (v1 : Value) (x1 : Mat) (w : World) (h0 : spMat.rd w v0 x0) (h1 : spMat.rd w v1 x1) (s0 : spMat.sz x0 ≤ 1048576) (s1 : spMat.sz x1 ≤ 1048576) : Calls Try.prog 34 #[v0, v1] w (MadeC spMat (rPreimageSubspace x0 x1) (cPreimageSubspace x0 x1) w) := by
  obtain ⟨i0, hi, hz0, hz1, hz2⟩ := info_parts infoII
  obtain ⟨A0, n0, c0, rfl, r0⟩ := spMat_form h0
  obtain ⟨rfl, -, -, -⟩ := rdII_of r0
  obtain ⟨A1, n1, c1, rfl, r1⟩ := spMat_form h1
  obtain ⟨rfl, -, -, -⟩ := rdII_of r1
  have L : Below w.heap.size w (((w.alloc (.cells [.int .i64 x0.P, .int .i64 x0.C, .slice A0 x0.R.length c0].toArray 27)).alloc (.cells [.int .i64 x1.P, .int .i64 x1.C, .slice A1 x1.R.length c1].toArray 27)).alloc (.cells [.int .i64 0, .int .i64 0, .slice none 0 0].toArray 27)) := by go_grown
  have Ba0 : Blk (((w.alloc (.cells [.int .i64 x0.P, .int .i64 x0.C, .slice A0 x0.R.length c0].toArray 27)).alloc (.cells [.int .i64 x1.P, .int .i64 x1.C, .slice A1 x1.R.length c1].toArray 27)).alloc (.cells [.int .i64 0, .int .i64 0, .slice none 0 0].toArray 27)) w.heap.size [.int .i64 x0.P, .int .i64 x0.C, .slice A0 x0.R.length c0] 27 := by have := ((Blk.new w [.int .i64 x0.P, .int .i64 x0.C, .slice A0 x0.R.length c0] 27).alloc (.cells [.int .i64 x1.P, .int .i64 x1.C, .slice A1 x1.R.length c1].toArray 27)).alloc (.cells [.int .i64 0, .int .i64 0, .slice none 0 0].toArray 27); simpa only [World.size_alloc] using this
  have Ba1 : Blk (((w.alloc (.cells [.int .i64 x0.P, .int .i64 x0.C, .slice A0 x0.R.length c0].toArray 27)).alloc (.cells [.int .i64 x1.P, .int .i64 x1.C, .slice A1 x1.R.length c1].toArray 27)).alloc (.cells [.int .i64 0, .int .i64 0, .slice none 0 0].toArray 27)) (w.heap.size + 1) [.int .i64 x1.P, .int .i64 x1.C, .slice A1 x1.R.length c1] 27 := by have := (Blk.new (w.alloc (.cells [.int .i64 x0.P, .int .i64 x0.C, .slice A0 x0.R.length c0].toArray 27)) [.int .i64 x1.P, .int .i64 x1.C, .slice A1 x1.R.length c1] 27).alloc (.cells [.int .i64 0, .int .i64 0, .slice none 0 0].toArray 27); simpa only [World.size_alloc] using this
  have Br : Blk (((w.alloc (.cells [.int .i64 x0.P, .int .i64 x0.C, .slice A0 x0.R.length c0].toArray 27)).alloc (.cells [.int .i64 x1.P, .int .i64 x1.C, .slice A1 x1.R.length c1].toArray 27)).alloc (.cells [.int .i64 0, .int .i64 0, .slice none 0 0].toArray 27)) (w.heap.size + 1 + 1) [.int .i64 0, .int .i64 0, .slice none 0 0] 27 := by have := Blk.new ((w.alloc (.cells [.int .i64 x0.P, .int .i64 x0.C, .slice A0 x0.R.length c0].toArray 27)).alloc (.cells [.int .i64 x1.P, .int .i64 x1.C, .slice A1 x1.R.length c1].toArray 27)) [.int .i64 0, .int .i64 0, .slice none 0 0] 27; simpa only [World.size_alloc] using this
  have K0 := Lib.hid (spMat.rd_below h0 L)
  have R0 := Lib.hid (spII.rd_below r0 L)
  clear h0 r0
  have K1 := Lib.hid (spMat.rd_below h1 L)
  have R1 := Lib.hid (spII.rd_below r1 L)
  clear h1 r1
  cases hk0 : x0.sub with
  | false =>
    have HEC := Lib.hid (pre_bad1 (a := x1) hk0).1
    have HER := Lib.hid (pre_bad1 (a := x1) hk0).2
    have HC := Lib.hid (sIsSub_no _ x0 _ K0.out hk0)
    clear hk0
    go_enter Try.func34, Try.ntmps34
    go_wp2_with (fail)
    refine (HC.out).mono ?_; rintro e w1 ⟨rfl, hb⟩
    replace L := bstep L L.size hb
    replace Ba0 := Ba0.below hb
    replace Ba1 := Ba1.below hb
    replace Br := Br.below hb
    replace K0 := Lib.hid (spMat.rd_below K0.out hb)
    replace R0 := Lib.hid (spII.rd_below R0.out hb)
    replace K1 := Lib.hid (spMat.rd_below K1.out hb)
    replace R1 := Lib.hid (spII.rd_below R1.out hb)
    clear hb
    obtain ⟨bla0, qa00, qa01, qa02⟩ := Ba0.c3
    obtain ⟨bla1, qa10, qa11, qa12⟩ := Ba1.c3
    obtain ⟨blr, qr0, qr1, qr2⟩ := Br.c3
    obtain ⟨f0, f1, f2⟩ := Br.f3
    go_wp2_with (fail)
    refine bodyPost_ret (v := .tuple #[.agg #[.int .i64 0, .int .i64 0, .slice none 0 0], .int .i64 1]) (by simp [results, Try.results34, go_sem, bla0, qa00, qa01, qa02, bla1, qa10, qa11, qa12, blr, qr0, qr1, qr2]) rfl ?_
    rw [HER.out, HEC.out]
    exact MadeC.none rfl ((((L).setCell (p := ⟨(w.heap.size + 1 + 1), 0, none⟩) (by simp; try omega) _).setCell (p := ⟨(w.heap.size + 1 + 1), 1, none⟩) (by simp; try omega) _).setCell (p := ⟨(w.heap.size + 1 + 1), 2, none⟩) (by simp; try omega) _)
  | true =>
    have HC := Lib.hid (sIsSub_yes _ x0 _ K0.out hk0)
    cases hk1 : x1.ok with
    | false =>
      have HEC := Lib.hid (pre_bad2 (u := x0) hk1).1
      have HER := Lib.hid (pre_bad2 (u := x0) hk1).2
      have HK1 := Lib.hid hk1
      clear hk0 hk1
      go_enter Try.func34, Try.ntmps34
      go_wp2_with (fail)
      refine (HC.out).mono ?_; rintro e w1 ⟨rfl, hb⟩
      replace L := bstep L L.size hb
      replace Ba0 := Ba0.below hb
      replace Ba1 := Ba1.below hb
      replace Br := Br.below hb
      replace K0 := Lib.hid (spMat.rd_below K0.out hb)
      replace R0 := Lib.hid (spII.rd_below R0.out hb)
      replace K1 := Lib.hid (spMat.rd_below K1.out hb)
      replace R1 := Lib.hid (spII.rd_below R1.out hb)
      clear hb
      obtain ⟨bla0, qa00, qa01, qa02⟩ := Ba0.c3
      obtain ⟨bla1, qa10, qa11, qa12⟩ := Ba1.c3
      obtain ⟨blr, qr0, qr1, qr2⟩ := Br.c3
      obtain ⟨f0, f1, f2⟩ := Br.f3
      go_wp2_with (fail)
      refine (sIsMat_no _ x1 _ K1.out HK1.out).mono ?_; rintro e w2 ⟨rfl, hb⟩
      clear bla0 qa00 qa01 qa02
      clear bla1 qa10 qa11 qa12
      clear blr qr0 qr1 qr2
      clear f0 f1 f2
      replace L := bstep L L.size hb
      replace Ba0 := Ba0.below hb
      replace Ba1 := Ba1.below hb
      replace Br := Br.below hb
      replace K0 := Lib.hid (spMat.rd_below K0.out hb)
      replace R0 := Lib.hid (spII.rd_below R0.out hb)
      replace K1 := Lib.hid (spMat.rd_below K1.out hb)
      replace R1 := Lib.hid (spII.rd_below R1.out hb)
      clear hb
      obtain ⟨bla0, qa00, qa01, qa02⟩ := Ba0.c3
      obtain ⟨bla1, qa10, qa11, qa12⟩ := Ba1.c3
      obtain ⟨blr, qr0, qr1, qr2⟩ := Br.c3
      obtain ⟨f0, f1, f2⟩ := Br.f3
      go_wp2_with (fail)
      refine bodyPost_ret (v := .tuple #[.agg #[.int .i64 0, .int .i64 0, .slice none 0 0], .int .i64 1]) (by simp [results, Try.results34, go_sem, bla0, qa00, qa01, qa02, bla1, qa10, qa11, qa12, blr, qr0, qr1, qr2]) rfl ?_
      rw [HER.out, HEC.out]
      exact MadeC.none rfl ((((L).setCell (p := ⟨(w.heap.size + 1 + 1), 0, none⟩) (by simp; try omega) _).setCell (p := ⟨(w.heap.size + 1 + 1), 1, none⟩) (by simp; try omega) _).setCell (p := ⟨(w.heap.size + 1 + 1), 2, none⟩) (by simp; try omega) _)
    | true =>
      have HK0 := Lib.hid hk0
      have HK1 := Lib.hid hk1
      by_cases hf : x0.P = x1.P ∧ x0.C = x1.C
      · obtain ⟨h1, h2, h3, h4, h5, h6, h7⟩ := Mat.sub_out hk0
        obtain ⟨-, -, -, k4, k5, k6, k7⟩ := Mat.ok_out hk1
        have hc : cPreimageSubspace x0 x1 = 0 := by unfold cPreimageSubspace; simp [hk0, hk1, hf.1, hf.2]
        have va : Num.Vecs x0.P x0.C.toNat x1.R := by rw [hf.1, hf.2]; exact Num.vecs_of k7
        have vu := h7.vecs
        have hv := Num.vecs_app va vu
        have hs := pre_sub hc
        have er : rPreimageSubspace x0 x1 = ⟨x0.P, x1.R.length, Num.preR x0.P x0.R x1.R x0.C.toNat⟩ := by unfold rPreimageSubspace; rw [if_pos hc]
        rw [er] at hs
        have HEC := Lib.hid hc
        have HER := Lib.hid er
        have HCB : Hid (spMat.cnt ⟨x0.P, x1.R.length, Num.preR x0.P x0.R x1.R x0.C.toNat⟩ ≤ 1000000000) := Lib.hid (Mat.ok_cnt (Mat.sub_ok hs))
        have hsz : spII.sz (Num.preR x0.P x0.R x1.R x0.C.toNat) ≤ 1048576 := Mat.ok_sz (Mat.sub_ok hs)
        have HOZ : Hid (spII.sz x1.R ≤ 1048576) := Lib.hid (Mat.ok_sz hk1)
        have HF := Lib.hid hf
        have l8 : x0.R.length ≤ 8 := h6
        have l8' : x1.R.length ≤ 8 := k6
        have nv := Num.null_app_vecs h1 vu va
        have pe := Num.pre_eq h1 h7 va
        have nl : (Num.nullR x0.P (x1.R ++ x0.R) x0.C.toNat).length ≤ 16 := by rw [Num.null_length]; have := Num.wide_len h1 (fun i hi => hv.at_ hi); rw [List.length_append] at this; omega
        have HNR : Hid (∀ j, j < (Num.nullR x0.P (x1.R ++ x0.R) x0.C.toNat).length → ((Num.nullR x0.P (x1.R ++ x0.R) x0.C.toNat).getD j []).length = x1.R.length + x0.R.length) := Lib.hid fun j hj => (nv.at_ hj).len
        have HNP : Hid (0 < (Num.nullR x0.P (x1.R ++ x0.R) x0.C.toNat).length → 0 < x1.R.length + x0.R.length) := Lib.hid fun h => by rw [Num.null_length] at h; have := Num.wide_len h1 (fun i hi => hv.at_ hi); rw [List.length_append] at this; omega
        have H1 : Hid (∀ W u, spII.rd W u (x1.R ++ x0.R) → Calls Try.prog 69 #[.int .i64 x0.P, u, .int .i64 x0.C] W (Made spII (Num.nullR x0.P (x1.R ++ x0.R) x0.C.toNat) W)) := Lib.hid fun W u hu => sNull_at x0.P _ u _ x0.C.toNat W hu h1 (fun i hi => hv.at_ hi) (by omega) (by rw [List.length_append]; omega) (by omega)
        have H2 : Hid (∀ W u, spII.rd W u ((Num.nullR x0.P (x1.R ++ x0.R) x0.C.toNat).map (List.take x1.R.length)) → Calls Try.prog 45 #[.int .i64 x0.P, u] W (Made spII (Num.preR x0.P x0.R x1.R x0.C.toNat) W)) := Lib.hid fun W u hu => by
          have := sReduce_any x0.P u _ x1.R.length W hu h1 (fun i hi => by rw [List.length_map] at hi; rw [Num.map_getD hi]; exact Vec_take_ h1 (nv.at_ hi)) (by omega) (by rw [List.length_map]; omega)
          rwa [pe] at this
        have H3 : Hid (∀ W u, spII.rd W u (Num.preR x0.P x0.R x1.R x0.C.toNat) → Calls Try.prog 61 #[.int .i64 x0.P, .int .i64 (x1.R.length : Int), u] W (Made spMat ⟨x0.P, x1.R.length, Num.preR x0.P x0.R x1.R x0.C.toNat⟩ W)) := Lib.hid fun W u hu => sMake_any x0.P _ u _ W hu hsz
        have ne1 : ¬ (w.heap.size = w.heap.size + 1) := by omega
        have ne2 : ¬ (w.heap.size + 1 = w.heap.size) := by omega
        have ne3 : ¬ (w.heap.size = w.heap.size + 1 + 1) := by omega
        have ne4 : ¬ (w.heap.size + 1 = w.heap.size + 1 + 1) := by omega
        have ne5 : ¬ (w.heap.size + 1 + 1 = w.heap.size) := by omega
        have ne6 : ¬ (w.heap.size + 1 + 1 = w.heap.size + 1) := by omega
        clear hk0 hk1 hf h1 h2 h3 h4 h5 h6 h7 k4 k5 k6 k7 hv hs hc va vu er hsz nv pe
        generalize Num.preR x0.P x0.R x1.R x0.C.toNat = RE at *
        generalize Num.nullR x0.P (x1.R ++ x0.R) x0.C.toNat = N at *
        go_enter Try.func34, Try.ntmps34
        go_wp2_with (fail)
        refine (HC.out).mono ?_; rintro e w1 ⟨rfl, hb⟩
        replace L := bstep L L.size hb
        replace Ba0 := Ba0.below hb
        replace Ba1 := Ba1.below hb
        replace Br := Br.below hb
        replace K0 := Lib.hid (spMat.rd_below K0.out hb)
        replace R0 := Lib.hid (spII.rd_below R0.out hb)
        replace K1 := Lib.hid (spMat.rd_below K1.out hb)
        replace R1 := Lib.hid (spII.rd_below R1.out hb)
        clear hb
        obtain ⟨bla0, qa00, qa01, qa02⟩ := Ba0.c3
        obtain ⟨bla1, qa10, qa11, qa12⟩ := Ba1.c3
        obtain ⟨blr, qr0, qr1, qr2⟩ := Br.c3
        obtain ⟨f0, f1, f2⟩ := Br.f3
        go_wp2_with (fail)
        refine (sIsMat_yes _ x1 _ K1.out HK1.out).mono ?_; rintro e w2 ⟨rfl, hb⟩
        clear bla0 qa00 qa01 qa02
        clear bla1 qa10 qa11 qa12
        clear blr qr0 qr1 qr2
        clear f0 f1 f2
        replace L := bstep L L.size hb
        replace Ba0 := Ba0.below hb
        replace Ba1 := Ba1.below hb
        replace Br := Br.below hb
        replace K0 := Lib.hid (spMat.rd_below K0.out hb)
        replace R0 := Lib.hid (spII.rd_below R0.out hb)
        replace K1 := Lib.hid (spMat.rd_below K1.out hb)
        replace R1 := Lib.hid (spII.rd_below R1.out hb)
        clear hb
        obtain ⟨bla0, qa00, qa01, qa02⟩ := Ba0.c3
        obtain ⟨bla1, qa10, qa11, qa12⟩ := Ba1.c3
        obtain ⟨blr, qr0, qr1, qr2⟩ := Br.c3
        obtain ⟨f0, f1, f2⟩ := Br.f3
        go_wp2_with (fail)
        refine (sFit_yes _ x0 _ x1 _ K0.out K1.out HF.out).mono ?_; rintro e w3 ⟨rfl, hb⟩
        clear bla0 qa00 qa01 qa02
        clear bla1 qa10 qa11 qa12
        clear blr qr0 qr1 qr2
        clear f0 f1 f2
        replace L := bstep L L.size hb
        replace Ba0 := Ba0.below hb
        replace Ba1 := Ba1.below hb
        replace Br := Br.below hb
        replace K0 := Lib.hid (spMat.rd_below K0.out hb)
        replace R0 := Lib.hid (spII.rd_below R0.out hb)
        replace K1 := Lib.hid (spMat.rd_below K1.out hb)
        replace R1 := Lib.hid (spII.rd_below R1.out hb)
        clear hb
        obtain ⟨bla0, qa00, qa01, qa02⟩ := Ba0.c3
        obtain ⟨bla1, qa10, qa11, qa12⟩ := Ba1.c3
        obtain ⟨blr, qr0, qr1, qr2⟩ := Br.c3
        obtain ⟨f0, f1, f2⟩ := Br.f3
        have LC0 : Below w3.heap.size w3 w3.drew := (Below.refl _ _).drew
        go_wp2_with (fail)
        clear blr qr0 qr1 qr2
        clear f0 f1 f2
        go_region_held3 (fun wx => wx.cell? ⟨w.heap.size, 0, none⟩ = some (.int .i64 x0.P) ∧ wx.cell? ⟨w.heap.size, 1, none⟩ = some (.int .i64 x0.C) ∧ wx.cell? ⟨w.heap.size, 2, none⟩ = some (.slice A0 x0.R.length c0) ∧ wx.cell? ⟨(w.heap.size + 1), 0, none⟩ = some (.int .i64 x1.P) ∧ wx.cell? ⟨(w.heap.size + 1), 1, none⟩ = some (.int .i64 x1.C) ∧ wx.cell? ⟨(w.heap.size + 1), 2, none⟩ = some (.slice A1 x1.R.length c1)) (first | assumption | go_keep) (first
            | (go_at_call 62; refine (sOwn2_any _ x1.R _ (spII.rd_below R1.out LC0) HOZ.out).mono ?_; rintro e w4 ⟨uo, So, rfl, owo, hSo, hbo⟩; have LC1 := bstep LC0 LC0.size hbo; obtain ⟨Ao, co, rfl, -, -⟩ := spII.own_rd owo; obtain ⟨vs, news, a1, a2, a3, a4, a5, a6⟩ := Bag.append (w0 := w3) (s := spI) (nul := []) one_spI (Bag.of_own (B := w3.heap.size) owo (fun k h => hSo k h)) LC1 R0.out; have SMo : w4.cell? ⟨w.heap.size, 0, none⟩ = some (.int .i64 x0.P) ∧ w4.cell? ⟨w.heap.size, 1, none⟩ = some (.int .i64 x0.C) ∧ w4.cell? ⟨w.heap.size, 2, none⟩ = some (.slice A0 x0.R.length c0) ∧ w4.cell? ⟨(w.heap.size + 1), 0, none⟩ = some (.int .i64 x1.P) ∧ w4.cell? ⟨(w.heap.size + 1), 1, none⟩ = some (.int .i64 x1.C) ∧ w4.cell? ⟨(w.heap.size + 1), 2, none⟩ = some (.slice A1 x1.R.length c1) := ⟨(Blk.cell (Ba0.below LC1) 0 (by simp)), (Blk.cell (Ba0.below LC1) 1 (by simp)), (Blk.cell (Ba0.below LC1) 2 (by simp)), (Blk.cell (Ba1.below LC1) 0 (by simp)), (Blk.cell (Ba1.below LC1) 1 (by simp)), (Blk.cell (Ba1.below LC1) 2 (by simp))⟩)
            | (go_at_call 69; refine (H1.out _ _ rdb).mono ?_; rintro e w6 ⟨un, Sn, rfl, own, hSn, hbn⟩; have LC3 := bstep LC2 LC2.size hbn; obtain ⟨An, cn, rfl, -, -⟩ := spII.own_rd own; have SMn : w6.cell? ⟨w.heap.size, 0, none⟩ = some (.int .i64 x0.P) ∧ w6.cell? ⟨w.heap.size, 1, none⟩ = some (.int .i64 x0.C) ∧ w6.cell? ⟨w.heap.size, 2, none⟩ = some (.slice A0 x0.R.length c0) ∧ w6.cell? ⟨(w.heap.size + 1), 0, none⟩ = some (.int .i64 x1.P) ∧ w6.cell? ⟨(w.heap.size + 1), 1, none⟩ = some (.int .i64 x1.C) ∧ w6.cell? ⟨(w.heap.size + 1), 2, none⟩ = some (.slice A1 x1.R.length c1) := ⟨(Blk.cell (Ba0.below LC3) 0 (by simp)), (Blk.cell (Ba0.below LC3) 1 (by simp)), (Blk.cell (Ba0.below LC3) 2 (by simp)), (Blk.cell (Ba1.below LC3) 0 (by simp)), (Blk.cell (Ba1.below LC3) 1 (by simp)), (Blk.cell (Ba1.below LC3) 2 (by simp))⟩)
            | (refine step_append_list _ rfl _ _ 22 rfl w3.heap.size 31 i0 (.slice none 0 0) 24 Try.underlying22 hi hz0 hz1 hz2 rfl (.slice Ao x1.R.length co) x1.R.length vs rfl a1 A0 x0.R.length c0 news a2 rfl a3 a4 (by unfold maxLen; omega) (by omega) LC1.size ?_; intro va w5 owna gra ata; obtain ⟨bag, LC2⟩ := a6 va w5 owna gra ata; obtain ⟨Aa, ca, hva⟩ := bag.form; rw [List.length_append] at hva; subst hva; have rdb := Bag.rdII bag; clear owna gra ata a1 a2 a3 a4 a5 a6 bag; have SMap : w5.cell? ⟨w.heap.size, 0, none⟩ = some (.int .i64 x0.P) ∧ w5.cell? ⟨w.heap.size, 1, none⟩ = some (.int .i64 x0.C) ∧ w5.cell? ⟨w.heap.size, 2, none⟩ = some (.slice A0 x0.R.length c0) ∧ w5.cell? ⟨(w.heap.size + 1), 0, none⟩ = some (.int .i64 x1.P) ∧ w5.cell? ⟨(w.heap.size + 1), 1, none⟩ = some (.int .i64 x1.C) ∧ w5.cell? ⟨(w.heap.size + 1), 2, none⟩ = some (.slice A1 x1.R.length c1) := ⟨(Blk.cell (Ba0.below LC2) 0 (by simp)), (Blk.cell (Ba0.below LC2) 1 (by simp)), (Blk.cell (Ba0.below LC2) 2 (by simp)), (Blk.cell (Ba1.below LC2) 0 (by simp)), (Blk.cell (Ba1.below LC2) 1 (by simp)), (Blk.cell (Ba1.below LC2) 2 (by simp))⟩))
        replace L := bstep L L.size LC3
        replace Ba0 := Ba0.below LC3
        replace Ba1 := Ba1.below LC3
        replace Br := Br.below LC3
        replace K0 := Lib.hid (spMat.rd_below K0.out LC3)
        replace R0 := Lib.hid (spII.rd_below R0.out LC3)
        replace K1 := Lib.hid (spMat.rd_below K1.out LC3)
        replace R1 := Lib.hid (spII.rd_below R1.out LC3)
        have HN := Lib.hid own
        clear own rdb LC0 LC1 LC2 LC3 hbo hbn SMo SMap SMn owo hSo hSn H1
        obtain ⟨bla0, qa00, qa01, qa02⟩ := Ba0.c3
        obtain ⟨bla1, qa10, qa11, qa12⟩ := Ba1.c3
        obtain ⟨blr, qr0, qr1, qr2⟩ := Br.c3
        obtain ⟨f0, f1, f2⟩ := Br.f3
        go_wp2_with (fail)
        go_loopw [7, 8] (fun s7 s8 wr => ∃ (j : Nat) (vs : List Value), s8 = .int .i64 j ∧ j ≤ N.length ∧ Hid (wr.ownsRow w6.heap.size 31 1 s7 j vs) ∧ Hid (∀ i, i < j → spI.rd w6 (vs.getD i undef) ((N.getD i []).take x1.R.length)) ∧ Below w6.heap.size w6 wr) (fun _ s8 _ => N.length - (intOf s8).toNat)
        case atStart => exact ⟨0, [], rfl, by omega, Lib.hid (World.ownsRow_lit _ #[] _ (Nat.le_refl _) (by unfold maxLen; omega) rfl), Lib.hid (fun i hi => by omega), by go_grown⟩
        case round =>
          obtain ⟨j, vs, rfl, hj, HO, HV, bel⟩ := hrel
          clear bla0 qa00 qa01 qa02
          clear bla1 qa10 qa11 qa12
          clear blr qr0 qr1 qr2
          clear f0 f1 f2
          by_cases hlt : j < N.length
          · obtain ⟨gz, cz, u, T, e1, -, hgl, hcz, -, hu, -, -⟩ := spL_own_at (spII.own_below HN.out bel) hlt
            simp only [Value.slice.injEq] at e1
            obtain ⟨rfl, -, rfl⟩ := e1
            have vl := HNR.out j hlt
            have vp := HNP.out (by omega)
            obtain ⟨gu, cu, rfl, hcap, hcm, hgu, -⟩ := spI_own_cap hu (by omega)
            unfold maxLen at hcm
            have HUO : Hid (spI.rd w6 (.slice (some ⟨gu, 0, none⟩) x1.R.length cu) ((N.getD j []).take x1.R.length)) := Lib.hid (by
              obtain ⟨g', cg', u', T', e1', -, hgl', hcz', -, hu', -, -⟩ := spL_own_at HN.out hlt
              simp only [Value.slice.injEq] at e1'
              obtain ⟨e2, -, rfl⟩ := e1'
              have e3 : g' = gz := by simpa using e2.symm
              subst e3
              rw [bel.cell hgl', hcz'] at hcz
              obtain rfl := Option.some.inj hcz
              exact spI_rd_take (spI.own_rd hu') (by omega))
            have j0 : (0 : Int) ≤ (j : Int) := by omega
            have j1 : (j : Int) < (N.length : Int) := by omega
            have cc0 : (0 : Int) ≤ (x1.R.length : Int) := by omega
            have cc1 : (x1.R.length : Int) ≤ (cu : Int) := by omega
            have cc2 : x1.R.length ≤ cu := by omega
            have cc3 : ¬ (cu = 0) := by omega
            have hvl : Hid (vs.length = j) := Lib.hid (by have := HO.out.1; simpa using this)
            have HOA := Lib.hid (HO.out.alloc (.cells #[.slice (some ⟨gu, 0, none⟩) x1.R.length cu] 31))
            obtain ⟨bl4, qa0, qa1, qa2⟩ := (Ba1.below bel).c3
            have hnl : j ≤ 16 := by omega
            clear hu vp vl hcap
            generalize (N.getD j []).length = ln at *
            go_wp2_with (fail)
            go_region_law (first | (refine step_append_lies _ rfl _ _ 22 rfl w6.heap.size 31 i0 (.slice none 0 0) 1 24 Try.underlying22 hi hz0 hz1 hz2 rfl (by decide) _ j vs rfl HOA.out ⟨_, 0, none⟩ 1 1 [.slice (some ⟨gu, 0, none⟩) x1.R.length cu] rfl rfl (cell_one_new _ _ _) (by simp [Value.oneCell']) (by decide) (by unfold maxLen; omega) (by omega) (by have := bel.size; simp; omega) _ rfl ?_; intro g3 cap3 w3' own3 gr3 at3 lt3))
            all_goals
              have HO3 := Lib.hid own3
              have bel3 : Below w6.heap.size w6 w3' := ((bel.alloc bel.size _).drew).grown gr3 (by have := bel.size; simp; omega) (fun k hk => (World.ownsRow.lt HO.out k hk).1)
              have HV3 : Hid (∀ i, i < j + 1 → spI.rd w6 ((vs ++ [Value.slice (some ⟨gu, 0, none⟩) x1.R.length cu]).getD i undef) ((N.getD i []).take x1.R.length)) := Lib.hid (fun i hi => by
                have hv := hvl.out
                by_cases e : i < j
                · rw [List.getD_eq_getElem?_getD, List.getElem?_append_left (by omega), ← List.getD_eq_getElem?_getD]
                  exact HV.out i e
                · obtain rfl : i = j := by omega
                  rw [List.getD_eq_getElem?_getD, List.getElem?_append_right (by omega), hv]
                  simpa using HUO.out)
              clear own3 gr3 at3 lt3 hcz
              go_wp2_with (fail)
              exact ⟨⟨j + 1, _, by go_num, by omega, HO3, HV3, bel3⟩, by simp [intOf]; omega⟩
          · obtain rfl : j = N.length := by omega
            have hge : ¬ ((N.length : Int) < (N.length : Int)) := by omega
            have HF := Lib.hid (rd_of_rows (s := spI) (nul := []) (xs := N.map (List.take x1.R.length)) HO.out (by simp) (fun i hi => by rw [Num.map_getD hi]; exact spI.rd_below (HV.out i hi) bel))
            have hf0 := HF.out
            obtain ⟨Af, cf, hsf, -, -⟩ := hf0
            rw [List.length_map] at hsf
            subst hsf
            replace L := bstep L L.size bel
            replace Ba0 := Ba0.below bel
            replace Ba1 := Ba1.below bel
            replace Br := Br.below bel
            replace K0 := Lib.hid (spMat.rd_below K0.out bel)
            replace R0 := Lib.hid (spII.rd_below R0.out bel)
            replace K1 := Lib.hid (spMat.rd_below K1.out bel)
            replace R1 := Lib.hid (spII.rd_below R1.out bel)
            obtain ⟨bla0, qa00, qa01, qa02⟩ := Ba0.c3
            obtain ⟨bla1, qa10, qa11, qa12⟩ := Ba1.c3
            obtain ⟨blr, qr0, qr1, qr2⟩ := Br.c3
            obtain ⟨f0, f1, f2⟩ := Br.f3
            have LC0 : Below wr.heap.size wr wr.drew := (Below.refl _ _).drew
            go_wp2_with (fail)
            clear blr qr0 qr1 qr2
            clear f0 f1 f2
            go_region_held3 (fun wx => wx.cell? ⟨w.heap.size, 0, none⟩ = some (.int .i64 x0.P) ∧ wx.cell? ⟨w.heap.size, 1, none⟩ = some (.int .i64 x0.C) ∧ wx.cell? ⟨w.heap.size, 2, none⟩ = some (.slice A0 x0.R.length c0) ∧ wx.cell? ⟨(w.heap.size + 1), 0, none⟩ = some (.int .i64 x1.P) ∧ wx.cell? ⟨(w.heap.size + 1), 1, none⟩ = some (.int .i64 x1.C) ∧ wx.cell? ⟨(w.heap.size + 1), 2, none⟩ = some (.slice A1 x1.R.length c1)) (first | assumption | go_keep) (first
                | (go_at_call 45; refine (H2.out _ _ (spII.rd_below (show spII.rd _ _ _ from HF.out) LC0)).mono ?_; rintro e w7 ⟨ur, Sr, rfl, owr, hSr, hbr⟩; have LC1 := bstep LC0 LC0.size hbr; have SMr : w7.cell? ⟨w.heap.size, 0, none⟩ = some (.int .i64 x0.P) ∧ w7.cell? ⟨w.heap.size, 1, none⟩ = some (.int .i64 x0.C) ∧ w7.cell? ⟨w.heap.size, 2, none⟩ = some (.slice A0 x0.R.length c0) ∧ w7.cell? ⟨(w.heap.size + 1), 0, none⟩ = some (.int .i64 x1.P) ∧ w7.cell? ⟨(w.heap.size + 1), 1, none⟩ = some (.int .i64 x1.C) ∧ w7.cell? ⟨(w.heap.size + 1), 2, none⟩ = some (.slice A1 x1.R.length c1) := ⟨(Blk.cell (Ba0.below LC1) 0 (by simp)), (Blk.cell (Ba0.below LC1) 1 (by simp)), (Blk.cell (Ba0.below LC1) 2 (by simp)), (Blk.cell (Ba1.below LC1) 0 (by simp)), (Blk.cell (Ba1.below LC1) 1 (by simp)), (Blk.cell (Ba1.below LC1) 2 (by simp))⟩)
                | (go_at_call 61; refine (H3.out _ _ (spII.own_rd owr)).mono ?_; rintro e w8 ⟨um, Sm, rfl, ⟨vm, Tm, rfl, om, subm, -⟩, hSm, hbm⟩; obtain ⟨Am, cm, rfl, -, -⟩ := spII.own_rd om; have LC2 := bstep LC1 LC1.size hbm; have SMm : w8.cell? ⟨w.heap.size, 0, none⟩ = some (.int .i64 x0.P) ∧ w8.cell? ⟨w.heap.size, 1, none⟩ = some (.int .i64 x0.C) ∧ w8.cell? ⟨w.heap.size, 2, none⟩ = some (.slice A0 x0.R.length c0) ∧ w8.cell? ⟨(w.heap.size + 1), 0, none⟩ = some (.int .i64 x1.P) ∧ w8.cell? ⟨(w.heap.size + 1), 1, none⟩ = some (.int .i64 x1.C) ∧ w8.cell? ⟨(w.heap.size + 1), 2, none⟩ = some (.slice A1 x1.R.length c1) := ⟨(Blk.cell (Ba0.below LC2) 0 (by simp)), (Blk.cell (Ba0.below LC2) 1 (by simp)), (Blk.cell (Ba0.below LC2) 2 (by simp)), (Blk.cell (Ba1.below LC2) 0 (by simp)), (Blk.cell (Ba1.below LC2) 1 (by simp)), (Blk.cell (Ba1.below LC2) 2 (by simp))⟩; have Brz := Br.below LC2; obtain ⟨blr, qr0, qr1, qr2⟩ := Brz.c3; obtain ⟨f0, f1, f2⟩ := Brz.f3))
            all_goals
              have LZ := bstep L L.size LC2
              have ltz := Br.lt
              have hq0 := LC1.size
              have hqL := L.size
              have HT : Hid (∀ k, Tm k → w.heap.size ≤ k) := Lib.hid fun k h => by have := hSm k (subm k h); omega
              have nT : ¬ Tm (w.heap.size + 1 + 1) := fun h => by have := hSm _ (subm _ h); omega
              have HO := Lib.hid om
              clear om subm hSm
              go_wp2_with (fail)
              refine bodyPost_ret (v := .tuple #[.agg #[.int .i64 x0.P, .int .i64 (x1.R.length : Int), .slice Am (RE).length cm], .int .i64 0]) (by simp [results, Try.results34, go_sem, blr, qr0, qr1, qr2]) rfl ?_
              rw [HER.out, HEC.out]
              refine MadeC.mat (S := Tm) rfl ?_ HT.out HCB.out ?_
              · exact spII.own_set (spII.own_set (spII.own_set (HO.out) (p := ⟨(w.heap.size + 1 + 1), 0, none⟩) nT _) (p := ⟨(w.heap.size + 1 + 1), 1, none⟩) nT _) (p := ⟨(w.heap.size + 1 + 1), 2, none⟩) nT _
              · exact (((LZ).setCell (p := ⟨(w.heap.size + 1 + 1), 0, none⟩) (by simp; try omega) _).setCell (p := ⟨(w.heap.size + 1 + 1), 1, none⟩) (by simp; try omega) _).setCell (p := ⟨(w.heap.size + 1 + 1), 2, none⟩) (by simp; try omega) _
      · obtain ⟨e0, e1, -⟩ := pre_fail hk0 hk1 (fun e => hf ⟨(pre_out e).2.2.1, (pre_out e).2.2.2⟩)
        have HEC := Lib.hid e0
        have HER := Lib.hid e1
        have HF := Lib.hid hf
        clear e0 e1 hk0 hk1 hf
        go_enter Try.func34, Try.ntmps34
        go_wp2_with (fail)
        refine (HC.out).mono ?_; rintro e w1 ⟨rfl, hb⟩
        replace L := bstep L L.size hb
        replace Ba0 := Ba0.below hb
        replace Ba1 := Ba1.below hb
        replace Br := Br.below hb
        replace K0 := Lib.hid (spMat.rd_below K0.out hb)
        replace R0 := Lib.hid (spII.rd_below R0.out hb)
        replace K1 := Lib.hid (spMat.rd_below K1.out hb)
        replace R1 := Lib.hid (spII.rd_below R1.out hb)
        clear hb
        obtain ⟨bla0, qa00, qa01, qa02⟩ := Ba0.c3
        obtain ⟨bla1, qa10, qa11, qa12⟩ := Ba1.c3
        obtain ⟨blr, qr0, qr1, qr2⟩ := Br.c3
        obtain ⟨f0, f1, f2⟩ := Br.f3
        go_wp2_with (fail)
        refine (sIsMat_yes _ x1 _ K1.out HK1.out).mono ?_; rintro e w2 ⟨rfl, hb⟩
        clear bla0 qa00 qa01 qa02
        clear bla1 qa10 qa11 qa12
        clear blr qr0 qr1 qr2
        clear f0 f1 f2
        replace L := bstep L L.size hb
        replace Ba0 := Ba0.below hb
        replace Ba1 := Ba1.below hb
        replace Br := Br.below hb
        replace K0 := Lib.hid (spMat.rd_below K0.out hb)
        replace R0 := Lib.hid (spII.rd_below R0.out hb)
        replace K1 := Lib.hid (spMat.rd_below K1.out hb)
        replace R1 := Lib.hid (spII.rd_below R1.out hb)
        clear hb
        obtain ⟨bla0, qa00, qa01, qa02⟩ := Ba0.c3
        obtain ⟨bla1, qa10, qa11, qa12⟩ := Ba1.c3
        obtain ⟨blr, qr0, qr1, qr2⟩ := Br.c3
        obtain ⟨f0, f1, f2⟩ := Br.f3
        go_wp2_with (fail)
        refine (sFit_no _ x0 _ x1 _ K0.out K1.out HF.out).mono ?_; rintro e w3 ⟨rfl, hb⟩
        clear bla0 qa00 qa01 qa02
        clear bla1 qa10 qa11 qa12
        clear blr qr0 qr1 qr2
        clear f0 f1 f2
        replace L := bstep L L.size hb
        replace Ba0 := Ba0.below hb
        replace Ba1 := Ba1.below hb
        replace Br := Br.below hb
        replace K0 := Lib.hid (spMat.rd_below K0.out hb)
        replace R0 := Lib.hid (spII.rd_below R0.out hb)
        replace K1 := Lib.hid (spMat.rd_below K1.out hb)
        replace R1 := Lib.hid (spII.rd_below R1.out hb)
        clear hb
        obtain ⟨bla0, qa00, qa01, qa02⟩ := Ba0.c3
        obtain ⟨bla1, qa10, qa11, qa12⟩ := Ba1.c3
        obtain ⟨blr, qr0, qr1, qr2⟩ := Br.c3
        obtain ⟨f0, f1, f2⟩ := Br.f3
        go_wp2_with (fail)
        refine bodyPost_ret (v := .tuple #[.agg #[.int .i64 0, .int .i64 0, .slice none 0 0], .int .i64 2]) (by simp [results, Try.results34, go_sem, bla0, qa00, qa01, qa02, bla1, qa10, qa11, qa12, blr, qr0, qr1, qr2]) rfl ?_
        rw [HER.out, HEC.out]
        exact MadeC.none rfl ((((L).setCell (p := ⟨(w.heap.size + 1 + 1), 0, none⟩) (by simp; try omega) _).setCell (p := ⟨(w.heap.size + 1 + 1), 1, none⟩) (by simp; try omega) _).setCell (p := ⟨(w.heap.size + 1 + 1), 2, none⟩) (by simp; try omega) _)
end Go.Proofs.Ytggkoihlmijacaa
