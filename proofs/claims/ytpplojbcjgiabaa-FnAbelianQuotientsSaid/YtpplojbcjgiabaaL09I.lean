/- SumAbelian of the model. -/
import Derived.Test.YtpplojbcjgiabaaL09F
import Derived.Test.YtpplojbcjgiabaaL09H
namespace Go.Proofs.Ytpplojbcjgiabaa
open Go.RowKit
set_option linter.unusedVariables false
set_option linter.unusedSimpArgs false
/-- What l05From leaves, in one form. -/
def FromOne (xs : List Int) (w : World) (e : Ending) (w' : World) : Prop :=
  ∃ S u okb, e = .returned (.tuple #[u, .bool okb]) ∧ S.Perm xs ∧ S.Pairwise Num.leP ∧ (okb = true → (∀ f ∈ Num.fromS S, f ≤ 1000000) ∧ OwnI w' w.heap.size u (Num.fromS S).reverse) ∧ (okb = false → ¬ ∀ f ∈ Num.fromS S, f ≤ 1000000) ∧ Below w.heap.size w w'
theorem sFrom_one (v : Value) (xs : List Int) (w : World) (h : spI.rd w v xs) (hl : xs.length ≤ 1000) (hs : ∀ x ∈ xs, Num.PPow x ∧ x ≤ 1000000) : Calls Try.prog 53 #[v] w (FromOne xs w) := by
  refine (sFrom_any v xs w h hl hs).mono ?_
  rintro e w' ⟨S, hp, hs, ⟨ha, u, rfl, ho, hb⟩ | ⟨hn, rfl, hb⟩⟩
  · exact ⟨S, u, true, rfl, hp, hs, fun _ => ⟨ha, ho⟩, nofun, hb⟩
  · exact ⟨S, _, false, rfl, hp, hs, nofun, fun _ => hn, hb⟩
theorem ints_one (xs : List Int) : ∀ u ∈ xs.map (Value.int .i64), u.oneCell' = true := fun u hu => by
  obtain ⟨z, _, rfl⟩ := List.mem_map.mp hu
  rfl
theorem parts_good {F : List Int} (h : ∀ f ∈ F, 2 ≤ f ∧ f ≤ 1000000) : ∀ z ∈ F.flatMap Num.ppart, Num.PPow z ∧ z ≤ 1000000 := fun z hz => by
  obtain ⟨f, hf, hz⟩ := List.mem_flatMap.mp hz
  have hb := h f hf
  obtain ⟨d1, d2⟩ := Num.ppart_diff (f := f) (by omega)
  refine ⟨d1.2 z hz, ?_⟩
  have := Int.le_of_dvd (by omega) (by rw [← d2]; exact Num.prodZ_dvd hz : z ∣ f)
  omega
set_option maxRecDepth 100000 in
set_option maxHeartbeats 2000000 in
theorem sSumAbelian_any (v0 v1 : Value) (x0 x1 : Ab) (w : World) (h0 : spAb.rd w v0 x0) (h1 : spAb.rd w v1 x1) : Calls Try.prog 23 #[v0, v1] w (MadeC spAb (rSumAbelian x0 x1) (cSumAbelian x0 x1) w) := by
  obtain ⟨F0, K0⟩ := x0
  obtain ⟨_, rfl, A0, c0, rfl, hm0, hA0⟩ := h0
  replace hA0 : RdI w A0 F0 := hA0
  replace hm0 : F0.length ≤ maxLen := hm0
  obtain ⟨F1, K1⟩ := x1
  obtain ⟨_, rfl, A1, c1, rfl, hm1, hA1⟩ := h1
  replace hA1 : RdI w A1 F1 := hA1
  replace hm1 : F1.length ≤ maxLen := hm1
  obtain ⟨i0, hi, hz0, hz1, hz2⟩ := info_parts infoI
  have L : Below w.heap.size w (((w.alloc (.cells [.slice A0 F0.length c0, .int .i64 K0].toArray 40)).alloc (.cells [.slice A1 F1.length c1, .int .i64 K1].toArray 40)).alloc (.cells [.slice none 0 0, (.int .i64 0 : Value)].toArray 40)) := by go_grown
  have Ba : Blk (((w.alloc (.cells [.slice A0 F0.length c0, .int .i64 K0].toArray 40)).alloc (.cells [.slice A1 F1.length c1, .int .i64 K1].toArray 40)).alloc (.cells [.slice none 0 0, (.int .i64 0 : Value)].toArray 40)) w.heap.size [.slice A0 F0.length c0, .int .i64 K0] 40 := ((Blk.new w [.slice A0 F0.length c0, .int .i64 K0] _).alloc _).alloc _
  have Bb : Blk (((w.alloc (.cells [.slice A0 F0.length c0, .int .i64 K0].toArray 40)).alloc (.cells [.slice A1 F1.length c1, .int .i64 K1].toArray 40)).alloc (.cells [.slice none 0 0, (.int .i64 0 : Value)].toArray 40)) (w.heap.size + 1) [.slice A1 F1.length c1, .int .i64 K1] 40 := by have := (Blk.new (w.alloc (.cells [.slice A0 F0.length c0, .int .i64 K0].toArray 40)) [.slice A1 F1.length c1, .int .i64 K1] 40).alloc (.cells [.slice none 0 0, (.int .i64 0 : Value)].toArray 40); rwa [World.size_alloc] at this
  have BR : Blk (((w.alloc (.cells [.slice A0 F0.length c0, .int .i64 K0].toArray 40)).alloc (.cells [.slice A1 F1.length c1, .int .i64 K1].toArray 40)).alloc (.cells [.slice none 0 0, (.int .i64 0 : Value)].toArray 40)) (w.heap.size + 2) [.slice none 0 0, (.int .i64 0 : Value)] 40 := by have := Blk.new ((w.alloc (.cells [.slice A0 F0.length c0, .int .i64 K0].toArray 40)).alloc (.cells [.slice A1 F1.length c1, .int .i64 K1].toArray 40)) [.slice none 0 0, (.int .i64 0 : Value)] 40; rwa [World.size_alloc, World.size_alloc] at this
  have R0 := Lib.hid (spAb.rd_below (x := ⟨F0, K0⟩) (v := .agg #[.slice A0 F0.length c0, .int .i64 K0]) ⟨_, rfl, A0, c0, rfl, hm0, hA0⟩ L)
  have R1 := Lib.hid (spAb.rd_below (x := ⟨F1, K1⟩) (v := .agg #[.slice A1 F1.length c1, .int .i64 K1]) ⟨_, rfl, A1, c1, rfl, hm1, hA1⟩ L)
  cases hk0 : Ab.ok ⟨F0, K0⟩ with
  | false =>
    have HE := Lib.hid (Ab.sum_bad (x := ⟨F0, K0⟩) (y := ⟨F1, K1⟩) (.inl hk0))
    have HC := Lib.hid (sIsAb_no _ _ _ R0.out hk0)
    clear hk0 hA0 hm0 hA1 hm1
    obtain ⟨bl0, a00, a01⟩ := Ba.c2
    obtain ⟨bl1, a10, a11⟩ := Bb.c2
    obtain ⟨bl2, a20, a21⟩ := BR.c2
    have fr0 := BR.free 0
    have fr1 := BR.free 1
    go_enter Try.func23, Try.ntmps23
    go_wp2_with (fail)
    refine HC.out.mono ?_; rintro e w1 ⟨rfl, hb⟩
    replace L := bstep L L.size hb
    replace Ba := Ba.below hb
    replace Bb := Bb.below hb
    replace BR := BR.below hb
    replace R0 := Lib.hid (spAb.rd_below R0.out hb)
    replace R1 := Lib.hid (spAb.rd_below R1.out hb)
    clear a00 a01 a10 a11 a20 a21 bl0 bl1 bl2 fr0 fr1 HC hb
    obtain ⟨bl0, a00, a01⟩ := Ba.c2
    obtain ⟨bl1, a10, a11⟩ := Bb.c2
    obtain ⟨bl2, a20, a21⟩ := BR.c2
    have fr0 := BR.free 0
    have fr1 := BR.free 1
    have bw5 := (L.setCell (p := ⟨w.heap.size + 2, 0, none⟩) (by simp) (.slice none 0 0)).setCell (p := ⟨w.heap.size + 2, 1, none⟩) (by simp) (.int .i64 0)
    go_wp2_with (fail)
    refine bodyPost_ret (v := .tuple #[.agg #[.slice none 0 0, .int .i64 0], .int .i64 1]) (by simp [results, Try.results23, go_sem, bl2, a20, a21]) rfl ?_
    rw [HE.out.1, HE.out.2]
    exact MadeC.zero bw5
  | true =>
    have HC := Lib.hid (sIsAb_yes _ _ _ R0.out hk0)
    cases hk1 : Ab.ok ⟨F1, K1⟩ with
    | false =>
      have HE := Lib.hid (Ab.sum_bad (x := ⟨F0, K0⟩) (y := ⟨F1, K1⟩) (.inr hk1))
      have HC2 : Hid (∀ W, spAb.rd W (.agg #[.slice A1 F1.length c1, .int .i64 K1]) ⟨F1, K1⟩ → Calls Try.prog 49 #[.agg #[.slice A1 F1.length c1, .int .i64 K1]] W (RetB false W)) := Lib.hid fun W hW => sIsAb_no _ _ _ hW hk1
      clear hk0 hk1 hA0 hm0 hA1 hm1
      obtain ⟨bl0, a00, a01⟩ := Ba.c2
      obtain ⟨bl1, a10, a11⟩ := Bb.c2
      obtain ⟨bl2, a20, a21⟩ := BR.c2
      have fr0 := BR.free 0
      have fr1 := BR.free 1
      go_enter Try.func23, Try.ntmps23
      go_wp2_with (fail)
      refine HC.out.mono ?_; rintro e w1 ⟨rfl, hb⟩
      replace L := bstep L L.size hb
      replace Ba := Ba.below hb
      replace Bb := Bb.below hb
      replace BR := BR.below hb
      replace R0 := Lib.hid (spAb.rd_below R0.out hb)
      replace R1 := Lib.hid (spAb.rd_below R1.out hb)
      clear a00 a01 a10 a11 a20 a21 bl0 bl1 bl2 fr0 fr1 HC hb
      obtain ⟨bl0, a00, a01⟩ := Ba.c2
      obtain ⟨bl1, a10, a11⟩ := Bb.c2
      obtain ⟨bl2, a20, a21⟩ := BR.c2
      have fr0 := BR.free 0
      have fr1 := BR.free 1
      go_wp2_with (fail)
      refine (HC2.out _ R1.out).mono ?_; rintro e w2 ⟨rfl, hb⟩
      replace L := bstep L L.size hb
      replace Ba := Ba.below hb
      replace Bb := Bb.below hb
      replace BR := BR.below hb
      replace R0 := Lib.hid (spAb.rd_below R0.out hb)
      replace R1 := Lib.hid (spAb.rd_below R1.out hb)
      clear a00 a01 a10 a11 a20 a21 bl0 bl1 bl2 fr0 fr1 HC2 hb
      obtain ⟨bl0, a00, a01⟩ := Ba.c2
      obtain ⟨bl1, a10, a11⟩ := Bb.c2
      obtain ⟨bl2, a20, a21⟩ := BR.c2
      have fr0 := BR.free 0
      have fr1 := BR.free 1
      have bw5 := (L.setCell (p := ⟨w.heap.size + 2, 0, none⟩) (by simp) (.slice none 0 0)).setCell (p := ⟨w.heap.size + 2, 1, none⟩) (by simp) (.int .i64 0)
      go_wp2_with (fail)
      refine bodyPost_ret (v := .tuple #[.agg #[.slice none 0 0, .int .i64 0], .int .i64 1]) (by simp [results, Try.results23, go_sem, bl2, a20, a21]) rfl ?_
      rw [HE.out.1, HE.out.2]
      exact MadeC.zero bw5
    | true =>
      have HC2 : Hid (∀ W, spAb.rd W (.agg #[.slice A1 F1.length c1, .int .i64 K1]) ⟨F1, K1⟩ → Calls Try.prog 49 #[.agg #[.slice A1 F1.length c1, .int .i64 K1]] W (RetB true W)) := Lib.hid fun W hW => sIsAb_yes _ _ _ hW hk1
      have HE := Lib.hid (Ab.sum_ok (x := ⟨F0, K0⟩) (y := ⟨F1, K1⟩) hk0 hk1)
      obtain ⟨g1, g2, g3, g4, g5⟩ := Ab.ok_out hk0
      obtain ⟨k1, k2, k3, k4, k5⟩ := Ab.ok_out hk1
      dsimp only at g1 g2 g3 g4 g5 k1 k2 k3 k4 k5
      have GF := Num.mem_at (P := fun f => 2 ≤ f ∧ f ≤ 1000000) g4
      have GG := Num.mem_at (P := fun f => 2 ≤ f ∧ f ≤ 1000000) k4
      have H0 : Hid (∀ W, Below w.heap.size w W → Calls Try.prog 54 #[.slice A0 F0.length c0] W (SortedOf (F0.flatMap Num.ppart) W)) := Lib.hid fun W hW => sParts_any A0 c0 F0 W (hA0.below' hW) g1 (fun j hj => by have : 2 ≤ F0.getD j 0 ∧ F0.getD j 0 ≤ 1000000 := g4 j hj; omega)
      have H1 : Hid (∀ W, Below w.heap.size w W → Calls Try.prog 54 #[.slice A1 F1.length c1] W (SortedOf (F1.flatMap Num.ppart) W)) := Lib.hid fun W hW => sParts_any A1 c1 F1 W (hA1.below' hW) k1 (fun j hj => by have : 2 ≤ F1.getD j 0 ∧ F1.getD j 0 ≤ 1000000 := k4 j hj; omega)
      have lx : (F0.flatMap Num.ppart).length ≤ 200 := by have := (Num.flat_bd (F := F0) (fun f hf => by have := GF f hf; omega)).2; omega
      have ly : (F1.flatMap Num.ppart).length ≤ 200 := by have := (Num.flat_bd (F := F1) (fun f hf => by have := GG f hf; omega)).2; omega
      have HPG : Hid (∀ ya yb : List Int, ya.Perm (F0.flatMap Num.ppart) → yb.Perm (F1.flatMap Num.ppart) → ∀ z ∈ ya ++ yb, Num.PPow z ∧ z ≤ 1000000) := Lib.hid fun ya yb pa pb z hz => by
        rcases List.mem_append.mp hz with hz | hz
        · exact parts_good GF z (pa.subset hz)
        · exact parts_good GG z (pb.subset hz)
      have HDI : Hid (∀ ya yb S : List Int, ya.Perm (F0.flatMap Num.ppart) → yb.Perm (F1.flatMap Num.ppart) → S.Perm (ya ++ yb) → S.Pairwise Num.leP →
          rDir (Num.chainL F0 K0 ++ Num.chainL F1 K1) = (if Num.abB (Num.fromS S).reverse (K0 + K1) = true then ⟨(Num.fromS S).reverse, K0 + K1⟩ else ⟨[], 0⟩) ∧ cDir (Num.chainL F0 K0 ++ Num.chainL F1 K1) = (if Num.abB (Num.fromS S).reverse (K0 + K1) = true then 0 else 3)) := Lib.hid fun ya yb S pa pb pS sS => by
        have hS := pS.trans (pa.append pb)
        have hg : ∀ z ∈ S, Num.PPow z := fun z hz => (HPG.out ya yb pa pb z (pS.subset hz)).1
        have := dir_is (n := K0.toNat + K1.toNat) sS hg (Num.sum_is (fun f hf => by have := GF f hf; omega) (fun f hf => by have := GG f hf; omega) hS sS)
        rw [show ((K0.toNat + K1.toNat : Nat) : Int) = K0 + K1 by omega] at this
        exact this
      have wk : IntKind.i64.wrap (K0 + K1) = K0 + K1 := IntWalk.i64_in _ (by omega)
      clear hk0 hk1 hA0 hm0 hA1 hm1 g4 g5 k4 k5 GF GG
      dsimp only at HE
      generalize Num.chainL F0 K0 ++ Num.chainL F1 K1 = gs at *
      generalize F0.flatMap Num.ppart = x at *
      generalize F1.flatMap Num.ppart = y at *
      obtain ⟨bl0, a00, a01⟩ := Ba.c2
      obtain ⟨bl1, a10, a11⟩ := Bb.c2
      obtain ⟨bl2, a20, a21⟩ := BR.c2
      have fr0 := BR.free 0
      have fr1 := BR.free 1
      go_enter Try.func23, Try.ntmps23
      go_wp2_with (fail)
      refine HC.out.mono ?_; rintro e w1 ⟨rfl, hb⟩
      replace L := bstep L L.size hb
      replace Ba := Ba.below hb
      replace Bb := Bb.below hb
      replace BR := BR.below hb
      replace R0 := Lib.hid (spAb.rd_below R0.out hb)
      replace R1 := Lib.hid (spAb.rd_below R1.out hb)
      clear a00 a01 a10 a11 a20 a21 bl0 bl1 bl2 fr0 fr1 HC hb
      obtain ⟨bl0, a00, a01⟩ := Ba.c2
      obtain ⟨bl1, a10, a11⟩ := Bb.c2
      obtain ⟨bl2, a20, a21⟩ := BR.c2
      have fr0 := BR.free 0
      have fr1 := BR.free 1
      go_wp2_with (fail)
      refine (HC2.out _ R1.out).mono ?_; rintro e w2 ⟨rfl, hb⟩
      replace L := bstep L L.size hb
      replace Ba := Ba.below hb
      replace Bb := Bb.below hb
      replace BR := BR.below hb
      replace R0 := Lib.hid (spAb.rd_below R0.out hb)
      replace R1 := Lib.hid (spAb.rd_below R1.out hb)
      clear a00 a01 a10 a11 a20 a21 bl0 bl1 bl2 fr0 fr1 HC2 hb
      obtain ⟨bl0, a00, a01⟩ := Ba.c2
      obtain ⟨bl1, a10, a11⟩ := Bb.c2
      obtain ⟨bl2, a20, a21⟩ := BR.c2
      have fr0 := BR.free 0
      have fr1 := BR.free 1
      have LC0 : Below w2.heap.size w2 w2.drew := (Below.refl _ _).drew
      have BRH := Lib.hid BR
      go_wp2_with (fail)
      go_region_held3 (fun wx => wx.cell? ⟨w.heap.size, 0, none⟩ = some (.slice A0 F0.length c0) ∧ wx.cell? ⟨w.heap.size, 1, none⟩ = some (.int .i64 K0) ∧ wx.cell? ⟨w.heap.size + 1, 0, none⟩ = some (.slice A1 F1.length c1) ∧ wx.cell? ⟨w.heap.size + 1, 1, none⟩ = some (.int .i64 K1)) (first | assumption | go_keep) (first
        | (go_at_call 54; (with_reducible refine (H0.out _ (bstep L L.size LC0)).mono ?_); rintro e w3 ⟨ya, u3, rfl, hp3, hs3, ho3, hb3⟩; have LC1 := bstep LC0 LC0.size hb3; obtain ⟨B3, d3, rfl⟩ := ho3.form; have hl3 : ya.length ≤ 200 := (by rw [hp3.length_eq]; exact lx); have SMw3 : w3.cell? ⟨w.heap.size, 0, none⟩ = some (.slice A0 F0.length c0) ∧ w3.cell? ⟨w.heap.size, 1, none⟩ = some (.int .i64 K0) ∧ w3.cell? ⟨w.heap.size + 1, 0, none⟩ = some (.slice A1 F1.length c1) ∧ w3.cell? ⟨w.heap.size + 1, 1, none⟩ = some (.int .i64 K1) := ⟨(Blk.cell (Ba.below LC1) 0 (by simp)), (Blk.cell (Ba.below LC1) 1 (by simp)), (Blk.cell (Bb.below LC1) 0 (by simp)), (Blk.cell (Bb.below LC1) 1 (by simp))⟩)
        | (go_at_call 54; (with_reducible refine (H1.out _ (bstep L L.size LC1)).mono ?_); rintro e w4 ⟨yb, u4, rfl, hp4, hs4, ho4, hb4⟩; have LC2 := bstep LC1 LC1.size hb4; obtain ⟨B4, d4, rfl⟩ := ho4.form; have hl4 : yb.length ≤ 200 := (by rw [hp4.length_eq]; exact ly); have HO3 : Hid (OwnI w4 w2.heap.size (.slice B3 ya.length d3) ya) := Lib.hid (OwnI.below ho3 hb4); have HB3 := Lib.hid (OwnI.base_le HO3.out); have SMw4 : w4.cell? ⟨w.heap.size, 0, none⟩ = some (.slice A0 F0.length c0) ∧ w4.cell? ⟨w.heap.size, 1, none⟩ = some (.int .i64 K0) ∧ w4.cell? ⟨w.heap.size + 1, 0, none⟩ = some (.slice A1 F1.length c1) ∧ w4.cell? ⟨w.heap.size + 1, 1, none⟩ = some (.int .i64 K1) := ⟨(Blk.cell (Ba.below LC2) 0 (by simp)), (Blk.cell (Ba.below LC2) 1 (by simp)), (Blk.cell (Bb.below LC2) 0 (by simp)), (Blk.cell (Bb.below LC2) 1 (by simp))⟩)
        | (refine step_append_list _ rfl _ _ 24 rfl w2.heap.size 2 i0 (.int .i64 0) 8 Try.underlying24 hi hz0 hz1 hz2 rfl (.slice B3 ya.length d3) ya.length (ya.map (Value.int .i64)) rfl HO3.out B4 yb.length d4 (yb.map (Value.int .i64)) (by simp) rfl ho4.reads.cells (ints_one yb) (by unfold maxLen; omega) (by omega) LC2.size ?_; intro va w5 owna gra ata; have hoa : OwnI w5 w2.heap.size va (ya ++ yb) := (by unfold OwnI; simpa using owna); obtain ⟨B5, d5, hv5⟩ := hoa.form; rw [List.length_append] at hv5; subst hv5; have LC3 : Below w2.heap.size w2 w5 := LC2.grown gra LC2.size (fun k hk => HB3.out k hk); have HFR := Lib.hid (sFrom_one (.slice B5 (ya.length + yb.length) d5) (ya ++ yb) w5 ⟨B5, d5, by rw [List.length_append], by rw [List.length_append]; unfold maxLen; omega, hoa.reads⟩ (by rw [List.length_append]; omega) (HPG.out ya yb hp3 hp4)); have SMw5 : w5.cell? ⟨w.heap.size, 0, none⟩ = some (.slice A0 F0.length c0) ∧ w5.cell? ⟨w.heap.size, 1, none⟩ = some (.int .i64 K0) ∧ w5.cell? ⟨w.heap.size + 1, 0, none⟩ = some (.slice A1 F1.length c1) ∧ w5.cell? ⟨w.heap.size + 1, 1, none⟩ = some (.int .i64 K1) := ⟨(Blk.cell (Ba.below LC3) 0 (by simp)), (Blk.cell (Ba.below LC3) 1 (by simp)), (Blk.cell (Bb.below LC3) 0 (by simp)), (Blk.cell (Bb.below LC3) 1 (by simp))⟩)
        | (go_at_call 53; (with_reducible refine HFR.out.mono ?_); rintro e w6 ⟨S, u6, okb, rfl, hp6, hs6, ho6, hn6, hb6⟩; have LC4 := bstep LC3 LC3.size hb6; have SMw6 : w6.cell? ⟨w.heap.size, 0, none⟩ = some (.slice A0 F0.length c0) ∧ w6.cell? ⟨w.heap.size, 1, none⟩ = some (.int .i64 K0) ∧ w6.cell? ⟨w.heap.size + 1, 0, none⟩ = some (.slice A1 F1.length c1) ∧ w6.cell? ⟨w.heap.size + 1, 1, none⟩ = some (.int .i64 K1) := ⟨(Blk.cell (Ba.below LC4) 0 (by simp)), (Blk.cell (Ba.below LC4) 1 (by simp)), (Blk.cell (Bb.below LC4) 0 (by simp)), (Blk.cell (Bb.below LC4) 1 (by simp))⟩))
      have hbr := BR.lt
      have L3 := bstep L L.size LC4
      obtain ⟨D1, D2⟩ := HDI.out ya yb S hp3 hp4 hp6 hs6
      have hz3 := LC3.size
      replace Ba := Ba.below LC4
      replace Bb := Bb.below LC4
      replace BR := BR.below LC4
      obtain ⟨bl0, a00, a01⟩ := Ba.c2
      obtain ⟨bl1, a10, a11⟩ := Bb.c2
      obtain ⟨bl2, a20, a21⟩ := BR.c2
      have fr0 := BR.free 0
      have fr1 := BR.free 1
      cases okb with
      | true =>
        obtain ⟨hall, ho⟩ := ho6 rfl
        obtain ⟨U, ucap, rfl⟩ := ho.form
        have HM := Lib.hid (sMade_any U ucap (Num.fromS S).reverse (K0 + K1) w6 ⟨U, ucap, rfl, by obtain ⟨_, _, e9, hm9⟩ := ownsRow_cap ho; exact hm9, ho.reads⟩)
        have HO2 : Hid (OwnI w6 (w.heap.size + 3) (.slice U (Num.fromS S).reverse.length ucap) (Num.fromS S).reverse) := Lib.hid (ownsRow_base ho (by omega))
        have HLN : Hid (Num.abB (Num.fromS S).reverse (K0 + K1) = true → (Num.fromS S).reverse.length ≤ 1000000000) := Lib.hid fun hh => by have := (Num.abB_out hh).1; omega
        have HD1 := Lib.hid (And.intro D1 D2)
        clear HFR HDI HPG hp3 hp4 hp6 hs3 hs4 hs6 ho3 ho4 ho6 hn6 hall ho hb3 hb4 hb6 LC0 LC1 LC2 LC3 LC4 L D1 D2 HO3 HB3 hoa owna gra ata SMw3 SMw4 SMw5 SMw6 hl3 hl4 hz3 BRH
        generalize (Num.fromS S).reverse = F at *
        go_wp2_with (fail)
        try rw [wk]
        refine HM.out.mono ?_; rintro e w7 ⟨rfl, hb7⟩
        have BR3 := BR.below hb7
        have bw3 := bstep L3 L3.size hb7
        have HO3 : Hid (OwnI w7 (w.heap.size + 3) (.slice U F.length ucap) F) := Lib.hid (OwnI.below HO2.out hb7)
        obtain ⟨r2, r0, r1⟩ := BR3.c2
        have f0 := BR3.free 0
        have f1 := BR3.free 1
        clear HM HO2 hb7 Ba Bb BR L3 bl0 bl1 bl2 a00 a01 a10 a11 a20 a21 fr0 fr1
        cases hab : Num.abB F (K0 + K1) with
        | true =>
          have HD2 := HD1.out
          rw [hab, if_pos rfl, if_pos rfl] at HD2
          have HD3 := Lib.hid HD2
          have HL3 := Lib.hid (HLN.out hab)
          have bw5 := (bw3.setCell (p := ⟨w.heap.size + 2, 0, none⟩) (by simp) (.slice U F.length ucap)).setCell (p := ⟨w.heap.size + 2, 1, none⟩) (by simp) (.int .i64 (K0 + K1))
          have HO5 : Hid (OwnI ((w7.setCell ⟨w.heap.size + 2, 0, none⟩ (.slice U F.length ucap)).setCell ⟨w.heap.size + 2, 1, none⟩ (.int .i64 (K0 + K1))) w.heap.size (.slice U F.length ucap) F) := Lib.hid (ownsRow_base (owns_set (owns_set HO3.out (by simp) _) (by simp) _) (by omega))
          clear HD2 HD1 HLN hab BR3 bw3
          rw [if_pos rfl]
          go_wp2_with (fail)
          refine bodyPost_ret (v := .tuple #[.agg #[.slice U F.length ucap, .int .i64 (K0 + K1)], .int .i64 0]) (by simp [results, Try.results23, go_sem, r2, r0, r1]) rfl ?_
          rw [HE.out.1, HE.out.2, HD3.out.1, HD3.out.2]
          exact MadeC.group HO5.out HL3.out bw5
        | false =>
          have HD2 := HD1.out
          rw [hab, if_neg (by simp), if_neg (by simp)] at HD2
          have HD3 := Lib.hid HD2
          have bw5 := (bw3.setCell (p := ⟨w.heap.size + 2, 0, none⟩) (by simp) (.slice none 0 0)).setCell (p := ⟨w.heap.size + 2, 1, none⟩) (by simp) (.int .i64 0)
          clear HD2 HD1 HLN hab BR3 bw3
          rw [if_neg (by simp)]
          go_wp2_with (fail)
          refine bodyPost_ret (v := .tuple #[.agg #[.slice none 0 0, .int .i64 0], .int .i64 3]) (by simp [results, Try.results23, go_sem, r2, r0, r1]) rfl ?_
          rw [HE.out.1, HE.out.2, HD3.out.1, HD3.out.2]
          exact MadeC.zero bw5
      | false =>
        have hnot := hn6 rfl
        have hab := ab_big (K := K0 + K1) hnot
        rw [hab, if_neg (by simp)] at D1 D2
        have HD3 := Lib.hid (And.intro D1 D2)
        have bw5 := (L3.setCell (p := ⟨w.heap.size + 2, 0, none⟩) (by simp) (.slice none 0 0)).setCell (p := ⟨w.heap.size + 2, 1, none⟩) (by simp) (.int .i64 0)
        clear HFR HDI HPG hp3 hp4 hp6 hs3 hs4 hs6 ho3 ho4 ho6 hn6 hnot hab hb3 hb4 hb6 LC0 LC1 LC2 LC3 LC4 L L3 D1 D2 HO3 HB3 hoa owna gra ata SMw3 SMw4 SMw5 SMw6 hl3 hl4 hz3 Ba Bb BR BRH
        go_wp2_with (fail)
        refine bodyPost_ret (v := .tuple #[.agg #[.slice none 0 0, .int .i64 0], .int .i64 3]) (by simp [results, Try.results23, go_sem, bl2, a20, a21]) rfl ?_
        rw [HE.out.1, HE.out.2, HD3.out.1, HD3.out.2]
        exact MadeC.zero bw5
theorem sSumAbelian_ok (v0 : Value) (x0 : Ab) (v1 : Value) (x1 : Ab) (w : World) (h0 : spAb.rd w v0 x0) (h1 : spAb.rd w v1 x1) (s0 : spAb.sz x0 ≤ 1048576) (s1 : spAb.sz x1 ≤ 1048576) : Calls Try.prog 23 #[v0, v1] w (MadeC spAb (rSumAbelian x0 x1) (cSumAbelian x0 x1) w) := sSumAbelian_any v0 v1 x0 x1 w h0 h1
end Go.Proofs.Ytpplojbcjgiabaa
